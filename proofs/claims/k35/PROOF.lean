import PyProof.Rows.All
import Wide.All
import OpenK.AllK
import Wide.FinOn
import PyProof.EqAt
import PyProof.EqKinds
import PyProof.TupleCall
import Lean
import PyProof.DictWalks
import PyProof.DictIter
import PyProof.P3In
import KE.KEqSeq
import PyProof.ReprLen
import PyProof.ReprRoads
import PyProof.StrOps2
import KE.KRevSl
import PyProof.IsRules
import PyProof.StrLawsIdx
import PyProof.Rows.RegRepr
import PyProof.Rows.RegFStrParts
import PyProof.DictUpdate
import PyProof.AttrMissHeap
import PyProof.Walks
import KE.KDictOf
import PyProof.EnumIter
import PyProof.EnumFor
import PyProof.LayNew
import PyProof.EnumMake
import PyProof.Draws
import PyProof.WalksT
import PyProof.TupleIter
import PyProof.WalksMore
import KE.KRevIter
import KE.KEqDict
import PyProof.Rows.SetFrom
import PyProof.StrLawsTight
import PyProof.StrLawsChain
import PyProof.SumWalk
import PyProof.Rows.SortStr
import PyProof.Rows.SortWalk
import PyProof.TupleOfSeq
import KE.KDictSum
import KE.KSortTup
import PyProof.ListRange
import PyProof.ZipIter
import PyProof.Rows.ZipGen
import KE.KItemsList
import PyProof.ExcArgsOwn
import PyProof.InstStoreFacts
import PyProof.ExcBaseAll.ValueError
import PyProof.StationsW
import PyProof.RulesAs
import PyProof.RulesDel
import PyProof.NeKinds
import PySem.Challenge.RW_halforder_k35_apart_and_ways_between
set_option compiler.extract_closed false
set_option Elab.async false
set_option linter.all false
set_option maxRecDepth 100000
namespace L2
open PySem PySem.Spec PyProof.Rows
noncomputable abbrev Key := Sum Int Str
noncomputable def keyIs : Key → Value → Bool
  | .inl k, v => Value.isInt k v
  | .inr x, v => Value.isStrOf x v
noncomputable def keyH (w : World) : Key → Int
  | .inl k => hashInt k
  | .inr x => hashStr w x
theorem keyIs_shape : ∀ {k : Key} {v : Value}, keyIs k v = true → (∃ i t, k = Sum.inl i ∧ v = Value.int i t) ∨ (∃ x t, k = Sum.inr x ∧ v = Value.str x t)
  | .inl i, v, h => by
    obtain ⟨t, e⟩ := Value.isInt_shape (k := i) (v := v) h
    exact .inl ⟨i, t, rfl, e⟩
  | .inr x, v, h => by
    obtain ⟨t, e⟩ := Value.isStrOf_shape (x := x) (v := v) h
    exact .inr ⟨x, t, rfl, e⟩
theorem keyIs_int (i : Int) (t : Tok) : keyIs (.inl i) (.int i t) = true := by simp [keyIs, Value.isInt]
theorem keyIs_str (x : Str) (t : Tok) : keyIs (.inr x) (.str x t) = true := by simp [keyIs, Value.isStrOf]
theorem key_ll (a b : Int) : decide ((Sum.inl a : Key) = Sum.inl b) = (a == b) := by
  by_cases e : a = b
  · subst e; simp
  · have h : ¬ (Sum.inl a : Key) = Sum.inl b := fun q => e (Sum.inl.inj q)
    rw [decide_eq_false h]
    exact (beq_eq_false_iff_ne.mpr e).symm
theorem key_rr (a b : Str) : decide ((Sum.inr a : Key) = Sum.inr b) = decide (a = b) := by
  by_cases e : a = b
  · subst e; simp
  · have h : ¬ (Sum.inr a : Key) = Sum.inr b := fun q => e (Sum.inr.inj q)
    rw [decide_eq_false h, decide_eq_false e]
theorem key_lr (a : Int) (b : Str) : decide ((Sum.inl a : Key) = Sum.inr b) = false := decide_eq_false (fun q => nomatch q)
theorem key_rl (a : Str) (b : Int) : decide ((Sum.inr a : Key) = Sum.inl b) = false := decide_eq_false (fun q => nomatch q)
noncomputable def mixKind (prog : Program) (w : World) : PySem.KeyKind prog w Key where
  is := keyIs
  hash := keyH w
  inj := fun v a b ha hb => by
    rcases keyIs_shape ha with ⟨i, t, rfl, rfl⟩ | ⟨x, t, rfl, rfl⟩
    · rcases keyIs_shape hb with ⟨j, u, rfl, e⟩ | ⟨y, u, rfl, e⟩
      · injection e with e1 _; rw [e1]
      · exact nomatch e
    · rcases keyIs_shape hb with ⟨j, u, rfl, e⟩ | ⟨y, u, rfl, e⟩
      · exact nomatch e
      · injection e with e1 _; rw [e1]
  byValue := fun k v h => by
    rcases keyIs_shape h with ⟨i, t, rfl, rfl⟩ | ⟨x, t, rfl, rfl⟩ <;> rfl
  pyHash := fun hv h => by
    rcases keyIs_shape hv with ⟨i, t, rfl, rfl⟩ | ⟨x, t, rfl, rfl⟩
    · exact wpAny_pyHash_int h
    · exact wpAny_pyHash_str h
  eqBool := fun hu hv h => by
    rcases keyIs_shape hu with ⟨i, t, rfl, rfl⟩ | ⟨x, t, rfl, rfl⟩
    · rcases keyIs_shape hv with ⟨j, u, rfl, rfl⟩ | ⟨y, u, rfl, rfl⟩
      · rw [key_ll] at h; exact wpAny_eqBool_int h
      · rw [key_lr] at h; exact SeqAt.EqAt.int_str i t y u _ _ _ _ h
    · rcases keyIs_shape hv with ⟨j, u, rfl, rfl⟩ | ⟨y, u, rfl, rfl⟩
      · rw [key_rl] at h; exact SeqAt.EqAt.str_int x t j u _ _ _ _ h
      · rw [key_rr] at h; exact wpAny_eqBool_str h
  «strs» := fun k x t v h => by
    rcases keyIs_shape h with ⟨i, u, rfl, e⟩ | ⟨y, u, rfl, e⟩
    · exact nomatch e
    · injection e with e1 _
      subst e1
      cases v <;> rfl
theorem mixKind_int (prog : Program) (w : World) (i : Int) (t : Tok) : (mixKind prog w).is (.inl i) (.int i t) = true := keyIs_int i t
theorem mixKind_str (prog : Program) (w : World) (x : Str) (t : Tok) : (mixKind prog w).is (.inr x) (.str x t) = true := keyIs_str x t
end L2
namespace L2
open PySem PySem.Spec PyProof.Rows
inductive V where
  | non | bl (b : Bool) | int (i : Int) | str (x : Str) | byt (b : Array UInt8) | flt (b : UInt64) | ref (a : Addr) | ty (n : String)
  deriving DecidableEq
noncomputable def RelV : V → Value → Prop
  | .non, u => u = Value.none
  | .bl b, u => u = Value.bool b
  | .int i, u => ∃ t, u = Value.int i t
  | .str x, u => ∃ t, u = Value.str x t
  | .byt b, u => ∃ t, u = Value.bytes b t
  | .flt b, u => ∃ t, u = Value.float b t
  | .ref a, u => u = Value.ref a
  | .ty n, u => u = Value.type n
noncomputable abbrev Vals : List V → List Value → Prop := Paired RelV
theorem Vals.length {xs : List V} {us : List Value} (r : Vals xs us) : xs.length = us.length := Paired.length r
theorem Vals.get : ∀ {xs : List V} {us : List Value} {i : Nat} {x : V}, Vals xs us → xs[i]? = some x → ∃ u, us[i]? = some u ∧ RelV x u
  | _, _, _, _, .nil, e => by simp at e
  | _, _, 0, _, .cons r _, e => by simp at e; subst e; exact ⟨_, rfl, r⟩
  | _, _, i + 1, x, .cons _ t, e => by
    obtain ⟨u, h1, h2⟩ := Vals.get (i := i) (x := x) t (by simpa using e)
    exact ⟨u, by simpa using h1, h2⟩
theorem Vals.set {x : V} {u : Value} (r : RelV x u) : ∀ {xs : List V} {us : List Value} (i : Nat), Vals xs us → Vals (xs.set i x) (us.set i u)
  | _, _, _, .nil => .nil
  | _, _, 0, .cons _ t => .cons r t
  | _, _, i + 1, .cons q t => .cons q (Vals.set r i t)
theorem Vals.append : ∀ {xs ys : List V} {us ws : List Value}, Vals xs us → Vals ys ws → Vals (xs ++ ys) (us ++ ws)
  | _, _, _, _, .nil, s => s
  | _, _, _, _, .cons r t, s => .cons r (Vals.append t s)
theorem Vals.take : ∀ {xs : List V} {us : List Value} (n : Nat), Vals xs us → Vals (xs.take n) (us.take n)
  | _, _, 0, _ => .nil
  | _, _, _ + 1, .nil => .nil
  | _, _, n + 1, .cons r t => .cons r (Vals.take n t)
theorem Vals.drop : ∀ {xs : List V} {us : List Value} (n : Nat), Vals xs us → Vals (xs.drop n) (us.drop n)
  | _, _, 0, r => r
  | _, _, _ + 1, .nil => .nil
  | _, _, n + 1, .cons _ t => Vals.drop n t
noncomputable def RelO : Option V → Option Value → Prop
  | some v, some u => RelV v u
  | none, none => True
  | _, _ => False
noncomputable def KV {κ : Type} : List (κ × V) → List (κ × Value) → Prop := Paired fun (p : κ × V) (q : κ × Value) => p.1 = q.1 ∧ RelV p.2 q.2
noncomputable def kV : Key → V
  | .inl i => .int i
  | .inr x => .str x
noncomputable def IsTupN (h : Heap) (a : Addr) (items : Array Value) : Prop := ∃ o, h.get? a = some o ∧ o.cls = .type "tuple" ∧ (∃ n, o.data = .seq items n) ∧ o.dict = none
theorem IsTupN.tup {h : Heap} {a : Addr} {items : Array Value} (x : IsTupN h a items) : IsTup h a items := let ⟨o, h1, h2, ⟨n, h3⟩, _⟩ := x; ⟨o, h1, h2, n, h3⟩
theorem IsTupN.new (h : Heap) (its : Array Value) : IsTupN (h.push { cls := .type "tuple", data := .seq its }) h.objs.size its := ⟨_, Heap.get?_push_size _ rfl, rfl, ⟨_, rfl⟩, rfl⟩
inductive HO where
  | lst (xs : List V)
  | tup (xs : List V)
  | dK (kvs : List (Key × V)) | dT (kvs : List (List Key × V))
  | set (S : Int → Bool) (n : Nat)
  | ins (C dx : Addr) (fs : List (Str × V))
  | own (x : Addr)
  | xd (fs : List (Str × V))
  | met (f x : Addr)
  | rng (lo hi : Int)
  | frz (o : Obj) (u : HO)
  | tbl (ps : Array Value)
  | ext (φ : Heap → Prop)
noncomputable abbrev Hp := Addr → Option HO
noncomputable def upd (H : Hp) (a : Addr) (o : HO) : Hp := fun b => if b = a then some o else H b
theorem upd_same {H : Hp} {a : Addr} {o : HO} : upd H a o a = some o := by unfold upd; rw [if_pos rfl]
theorem upd_ne {H : Hp} {a b : Addr} {o : HO} (h : b ≠ a) : upd H a o b = H b := by unfold upd; rw [if_neg h]
theorem ne_of {H : Hp} {a b : Addr} {o u : HO} (h : H a = some o) (h' : H b = some u) (d : o ≠ u) : a ≠ b := by
  intro e; subst e; rw [h] at h'; exact d (Option.some.inj h')
theorem ne_of_none {H : Hp} {a b : Addr} {o : HO} (h : H a = some o) (h' : H b = none) : a ≠ b := by
  intro e; subst e; rw [h] at h'; cases h'
section
variable (P : Program) (w : World)
noncomputable def ObjOk (H : Hp) (h : Heap) (a : Addr) : HO → Prop
  | .lst xs => xs.length ≤ sizeLine ∧ ∃ (its : List Value) (n : Nat), Vals xs its ∧ h.get? a = some { cls := .type "list", data := .seq its.toArray n }
  | .tup xs => xs.length ≤ sizeLine ∧ ∃ its : List Value, Vals xs its ∧ IsTupN h a its.toArray
  | .dK kvs => kvs.length ≤ sizeLine ∧ (a == sysModules) = false ∧ ∃ vs, KV kvs vs ∧ h.DictOf (mixKind P w) a vs
  | .dT kvs => kvs.length ≤ sizeLine ∧ (a == sysModules) = false ∧ ∃ xs : List (List Key × Addr × Value),
      Paired (fun (p : List Key × V) (q : List Key × Addr × Value) => p.1 = q.1 ∧ H q.2.1 = some (.tup (p.1.map kV)) ∧ RelV p.2 q.2.2) kvs xs ∧
      ∃ o es ep, h.get? a = some o ∧ o.ExactDict ∧ o.data = .dict es ep ∧ es.toList = xs.map (entryOfKey (tupleKind (mixKind P w))) ∧ (xs.map (·.1)).Nodup
  | .set S n => h.SetOf (intKind P w) a S n
  | .ins C dx fs => H dx = some (.own a) ∧ fs.length ≤ 1000 ∧ dx ≠ a ∧ h.get? a = some (PySem.W.instObj C dx) ∧
      ∃ mA, h.Ns1 dx mA ∧ (∀ f, RelO (fs.lookup f) (mA f)) ∧ PySem.Within mA (fs.map (·.1))
  | .own _ => ∃ o, h.get? a = some o
  | .xd fs => ∃ mA, h.Ns1 a mA ∧ ∀ f, RelO (fs.lookup f) (mA f)
  | .rng lo hi => ∃ t u v, h.get? a = some { cls := .type "range", data := .fields #[.int lo t, .int hi u, .int 1 v] }
  | .frz o u => h.get? a = some o ∧ ObjOk H h a u
  | .tbl ps => h.get? a = some { cls := .none, data := .fields ps }
  | .met f x => h.get? a = some (PySem.W.methodObj (.ref f) (.ref x))
  | .ext φ => φ h ∧ (∃ o, h.get? a = some o) ∧ ∀ h1 h2 : Heap, φ h1 → (∀ o, h1.get? a = some o → h2.get? a = some o) → φ h2
noncomputable def HOk (H : Hp) (h : Heap) : Prop := ∀ a o, H a = some o → ObjOk P w H h a o
end
section
variable {P : Program} {w : World} {H H' : Hp} {h h' : Heap} {a : Addr} {o : HO}
theorem ObjOk.lt (x : ObjOk P w H h a o) : a < h.objs.size := by
  cases o with
  | lst xs => obtain ⟨_, _, _, _, e⟩ := x; exact Heap.lt_size e
  | tup xs => obtain ⟨_, _, _, p⟩ := x; exact p.tup.lt
  | dK kvs => obtain ⟨_, _, _, _, o, _, _, e, _⟩ := x; exact Heap.lt_size e
  | dT kvs => obtain ⟨_, _, _, _, o, _, _, e, _⟩ := x; exact Heap.lt_size e
  | set S n => obtain ⟨o, _, _, _, e, _⟩ := x; exact Heap.lt_size e
  | ins C dx fs => obtain ⟨_, _, _, e, _⟩ := x; exact Heap.lt_size e
  | own y => obtain ⟨_, e⟩ := x; exact Heap.lt_size e
  | xd fs => obtain ⟨_, ⟨_, _, _, e, _⟩, _⟩ := x; exact Heap.lt_size e
  | rng lo hi => obtain ⟨_, _, _, e⟩ := x; exact Heap.lt_size e
  | frz ob u => obtain ⟨e, _⟩ := x; exact Heap.lt_size e
  | tbl ps => exact Heap.lt_size (show h.get? a = some _ from x)
  | met f y => exact Heap.lt_size (show h.get? a = some _ from x)
  | ext φ => obtain ⟨_, ⟨_, e⟩, _⟩ := x; exact Heap.lt_size e
theorem Paired.mapP {α β : Type} {F G : α → β → Prop} : ∀ {l₁ : List α} {l₂ : List β}, Paired F l₁ l₂ → (∀ a b, F a b → G a b) → Paired G l₁ l₂
  | _, _, .nil, _ => .nil
  | _, _, .cons r t, f => .cons (f _ _ r) (Paired.mapP t f)
theorem ObjOk.stay (x : ObjOk P w H h a o) (k : ∀ b u, (b = a ∨ H b = some (.own a)) → h.get? b = some u → h'.get? b = some u)
    (ho : ∀ b, H b = some (.own a) → H' b = some (.own a)) (ht : ∀ b xs, H b = some (.tup xs) → H' b = some (.tup xs)) : ObjOk P w H' h' a o := by
  induction o with
  | lst xs => obtain ⟨z, its, n, r, e⟩ := x; exact ⟨z, its, n, r, k _ _ (.inl rfl) e⟩
  | tup xs => obtain ⟨z, its, r, ob, e, c⟩ := x; exact ⟨z, its, r, ob, k _ _ (.inl rfl) e, c⟩
  | dK kvs => obtain ⟨z, y, vs, r, ob, es, ep, e, c⟩ := x; exact ⟨z, y, vs, r, ob, es, ep, k _ _ (.inl rfl) e, c⟩
  | dT kvs =>
    obtain ⟨z, y, xs, r, ob, es, ep, e, c⟩ := x
    exact ⟨z, y, xs, Paired.mapP r fun p q z => ⟨z.1, ht _ _ z.2.1, z.2.2⟩, ob, es, ep, k _ _ (.inl rfl) e, c⟩
  | set S n => obtain ⟨ob, es, ep, t, e, c⟩ := x; exact ⟨ob, es, ep, t, k _ _ (.inl rfl) e, c⟩
  | ins C dx fs =>
    obtain ⟨d, z, ne, e, mA, ⟨od, es, ep, e2, c⟩, r⟩ := x
    exact ⟨ho _ d, z, ne, k _ _ (.inl rfl) e, mA, ⟨od, es, ep, k _ _ (.inr d) e2, c⟩, r⟩
  | own y => obtain ⟨ob, e⟩ := x; exact ⟨ob, k _ _ (.inl rfl) e⟩
  | xd fs => obtain ⟨mA, ⟨od, es, ep, e, c⟩, r⟩ := x; exact ⟨mA, ⟨od, es, ep, k _ _ (.inl rfl) e, c⟩, r⟩
  | rng lo hi => obtain ⟨t, u, v, e⟩ := x; exact ⟨t, u, v, k _ _ (.inl rfl) e⟩
  | frz ob u ih => obtain ⟨e, q⟩ := x; exact ⟨k _ _ (.inl rfl) e, ih q⟩
  | tbl ps =>
    have e : h.get? a = some { cls := .none, data := .fields ps } := x
    show h'.get? a = some { cls := .none, data := .fields ps }
    exact k a _ (.inl rfl) e
  | met f y =>
    have e : h.get? a = some (PySem.W.methodObj (.ref f) (.ref y)) := x
    show h'.get? a = some (PySem.W.methodObj (.ref f) (.ref y))
    exact k a _ (.inl rfl) e
  | ext φ => obtain ⟨p, ⟨o, e⟩, st⟩ := x; exact ⟨st _ _ p fun o q => k _ _ (.inl rfl) q, ⟨o, k _ _ (.inl rfl) e⟩, st⟩
theorem HOk.lt (x : HOk P w H h) (e : H a = some o) : a < h.objs.size := (x a o e).lt
theorem HOk.fresh (x : HOk P w H h) (e : h.objs.size ≤ a) : H a = none := by
  cases q : H a with
  | none => rfl
  | some u => exact absurd (Nat.lt_of_lt_of_le (x.lt q) e) (Nat.lt_irrefl _)
theorem HOk.kept (x : HOk P w H h) (k : ∀ b u, h.get? b = some u → h'.get? b = some u) : HOk P w H h' := fun a o e =>
  (x a o e).stay (fun b u _ q => k b u q) (fun _ q => q) fun _ _ q => q
theorem HOk.laid (x : HOk P w H h) (k : ∀ b u, h.get? b = some u → h'.get? b = some u) (hp : h.objs.size ≤ a) (new : ObjOk P w (upd H a o) h' a o) : HOk P w (upd H a o) h' := fun b u e => by
  have hn := x.fresh hp
  by_cases hb : b = a
  · subst hb; rw [upd_same] at e; cases e; exact new
  · rw [upd_ne hb] at e
    exact (x b u e).stay (fun c v _ q => k c v q) (fun c q => by rw [upd_ne (ne_of_none q hn)]; exact q) fun c xs q => by rw [upd_ne (ne_of_none q hn)]; exact q
end
noncomputable def Rd (H : Hp) (a : Addr) (u : HO) : Prop := H a = some u ∨ ∃ o, H a = some (.frz o u)
theorem Rd.ok {P : Program} {w : World} {H : Hp} {h : Heap} {a : Addr} {u : HO} (r : Rd H a u) (x : HOk P w H h) : ObjOk P w H h a u := by
  rcases r with r | ⟨o, r⟩
  · exact x a u r
  · obtain ⟨_, q⟩ := x a _ r
    exact q
noncomputable def Mut : Option HO → Prop
  | some (.lst _) => True
  | some (.dK _) => True
  | some (.dT _) => True
  | some (.set _ _) => True
  | some (.ins _ _ _) => True
  | some (.ext _) => True
  | _ => False
section
variable {P : Program} {w : World} {H : Hp} {h h' : Heap} {x e : Addr} {o' : HO}
theorem HOk.write (ok : HOk P w H h) (mu : Mut (H x)) (he : e = x ∨ H e = some (.own x)) (k : ∀ b u, b ≠ e → h.get? b = some u → h'.get? b = some u) (heo : ∃ u, h'.get? e = some u)
    (new : ObjOk P w (upd H x o') h' x o') : HOk P w (upd H x o') h' := fun b u q => by
  have nown : ∀ c y, H c = some (.own y) → c ≠ x := fun c y r z => by subst z; rw [r] at mu; exact mu
  have ntup : ∀ c xs, H c = some (.tup xs) → c ≠ x := fun c xs r z => by subst z; rw [r] at mu; exact mu
  by_cases hb : b = x
  · subst hb; rw [upd_same] at q; cases q; exact new
  · rw [upd_ne hb] at q
    by_cases hbe : b = e
    · have q' : H b = some (.own x) := by
        rcases he with z | z
        · exact absurd (hbe.trans z) hb
        · rw [hbe]; exact z
      rw [q] at q'; cases q'
      obtain ⟨v, hv⟩ := heo
      exact ⟨v, by rw [hbe]; exact hv⟩
    · refine (ok b u q).stay (fun c v hc r => k c v ?_ r) (fun c r => by rw [upd_ne (nown c b r)]; exact r) fun c xs r => by rw [upd_ne (ntup c xs r)]; exact r
      rcases hc with rfl | hc
      · exact hbe
      · rintro rfl
        rcases he with z | z
        · exact nown c b hc z
        · rw [hc] at z; cases z; exact hb rfl
end
structure Un (fs ex : List Addr) (H H' : Hp) (h h' : Heap) : Prop where
  keep : ∀ b o, h.get? b = some o → H b = none → b ∉ fs → b ∉ ex → h'.get? b = some o
  slot : ∀ b o, h.get? b = some o → H b = none → b ∈ fs → b ∉ ex → ∃ sl, h'.get? b = some { o with slots := sl }
  free : ∀ b o, h.get? b = some o → H b = none → b ∉ ex → H' b = none
  there : ∀ b o, h.get? b = some o → b ∉ ex → ∃ o', h'.get? b = some o'
  tups : ∀ b xs, H b = some (.tup xs) → H' b = some (.tup xs)
  frzs : ∀ b o u, H b = some (.frz o u) → H' b = some (.frz o u)
  tbls : ∀ b ps, H b = some (.tbl ps) → ∃ more, H' b = some (.tbl (ps ++ more))
section
variable {fs fs' ex ex' : List Addr} {H H1 H2 : Hp} {h h1 h2 h' : Heap} {a x e : Addr} {o : HO}
theorem Un.any (u : Un fs ex H H1 h h1) {b : Addr} {ob : Obj} (q : h.get? b = some ob) (n : H b = none) (hx : b ∉ ex) : ∃ sl, h1.get? b = some { ob with slots := sl } := by
  by_cases hb : b ∈ fs
  · exact u.slot b ob q n hb hx
  · exact ⟨ob.slots, u.keep b ob q n hb hx⟩
theorem Un.kept (k : ∀ b u, h.get? b = some u → h'.get? b = some u) : Un fs ex H H h h' :=
  ⟨fun b ob q _ _ _ => k b ob q, fun b ob q _ _ _ => ⟨ob.slots, k b ob q⟩, fun _ _ _ n _ => n, fun b ob q _ => ⟨ob, k b ob q⟩, fun _ _ q => q, fun _ _ _ q => q, fun _ ps q => ⟨#[], by rw [q]; simp⟩⟩
theorem Un.refl : Un fs ex H H h h := Un.kept fun _ _ q => q
theorem Un.laid (k : ∀ b u, h.get? b = some u → h'.get? b = some u) (hp : h.objs.size ≤ a) (hn : H a = none) : Un fs ex H (upd H a o) h h' where
  keep := fun b u q _ _ _ => k b u q
  slot := fun b u q _ _ _ => ⟨u.slots, k b u q⟩
  free := fun b u q n _ => by rw [upd_ne (Nat.ne_of_lt (Nat.lt_of_lt_of_le (Heap.lt_size q) hp))]; exact n
  there := fun b u q _ => ⟨u, k b u q⟩
  tups := fun b xs q => by rw [upd_ne (ne_of_none q hn)]; exact q
  frzs := fun b u xs q => by rw [upd_ne (ne_of_none q hn)]; exact q
  tbls := fun b ps q => ⟨#[], by rw [upd_ne (ne_of_none q hn), q]; simp⟩
theorem Un.write (mu : Mut (H x)) (he : e = x ∨ H e = some (.own x)) (k : ∀ b u, b ≠ e → h.get? b = some u → h'.get? b = some u) (heo : ∃ u, h'.get? e = some u) : Un fs ex H (upd H x o) h h' := by
  have hx : ∀ b, H b = none → b ≠ x := fun b n z => by subst z; rw [n] at mu; exact mu
  have hb : ∀ b, H b = none → b ≠ e := fun b n z => by
    subst z
    rcases he with r | r
    · exact hx b n r
    · rw [n] at r; cases r
  have hm : ∀ b u, H b = some u → ¬ Mut (some u) → b ≠ x := fun b u q nm z => by subst z; rw [q] at mu; exact nm mu
  refine ⟨fun b u q n _ _ => k b u (hb b n) q, fun b u q n _ _ => ⟨u.slots, k b u (hb b n) q⟩, fun b u q n _ => by rw [upd_ne (hx b n)]; exact n, fun b u q _ => ?_,
    fun b xs q => by rw [upd_ne (hm b _ q fun z => z)]; exact q, fun b u xs q => by rw [upd_ne (hm b _ q fun z => z)]; exact q, fun b ps q => ⟨#[], by rw [upd_ne (hm b _ q fun z => z), q]; simp⟩⟩
  by_cases hbe : b = e
  · subst hbe; exact heo
  · exact ⟨u, k b u hbe q⟩
end
noncomputable def trk (h : Heap) (H : Hp) : List Addr := (List.range h.objs.size).filter fun a => (H a).isSome
noncomputable def hidT (h : Heap) (H : Hp) : Heap := PySem.W.hideAll h (trk h H)
theorem hidT_size (h : Heap) (H : Hp) : (hidT h H).objs.size = h.objs.size := PySem.W.hideAll_size _ _
theorem hidT_get {h : Heap} {H : Hp} {b : Addr} {o : Obj} (e : h.get? b = some o) (n : H b = none) : (hidT h H).get? b = some o :=
  PySem.W.hideAll_get _ e fun hm => by
    have q : (H b).isSome = true := (List.mem_filter.mp hm).2
    rw [n] at q; simp at q
theorem of_hidT {h : Heap} {H : Hp} {b : Addr} {o : Obj} (e : (hidT h H).get? b = some o) : h.get? b = some o ∧ H b = none := by
  have e' : h.get? b = some o := PySem.W.of_hideAll (trk h H) e
  refine ⟨e', ?_⟩
  cases q : H b with
  | none => rfl
  | some x =>
    have hm : b ∈ trk h H := List.mem_filter.mpr ⟨List.mem_range.mpr (Heap.lt_size e'), by simp [q]⟩
    have z : (hidT h H).get? b = none := PySem.W.hideAll_none (trk h H) hm
    rw [z] at e; cases e
noncomputable def allNews (g h : Heap) (L : Addr) : List (Addr × Obj) := (List.range h.objs.size).filterMap fun a => if a = L ∨ (g.get? a).isSome = true then none else (h.get? a).map fun o => (a, o)
noncomputable def rest (g h : Heap) (L d : Addr) : List (Addr × Obj) := (allNews g h L).filter fun p => decide (p.1 ≠ d)
end L2
namespace L2
open PySem PySem.Spec PyProof.Rows
structure Mod (K : PySem.W.Frag) (mg : Str → Option Value) (base : Heap) : Prop where
  kin : K.In base
  glob : base.Ns mainGlobals mg
  blt : ∃ mb, base.Ns builtinsNs mb ∧ ∀ x : Str, x ≠ "__name__" → mb x = bootBuiltins x
  nolimit : base.NoLimit
/-- the context: a def's body (or a comprehension's block) running. base: fixed through the whole law; s₀, H₀: the entry; outer: the frames whose slots others may change (a def's callers); stack: all frames that run;
   ex: iterators that were made ahead of the entry and are walked here (a comprehension's); fn: the names whose cells were made at the entry (a def: all; a comprehension's block: its own); calm: not within an except suite; pn: pins that every state bears; xe: what is wanted of an exception that leaves the code -/
structure Cx where
  prog : Program
  w : World
  K : PySem.W.Frag
  mg : Str → Option Value
  base : Heap
  A : Around
  N : List Str
  s₀ : Shared
  H₀ : Hp
  env : Env
  outer : List Env
  stack : List Env
  ex : List Addr
  fn : Str → Bool
  calm : Bool
  pn : List (Addr × Obj)
  xe : Value → Shared → Prop
noncomputable def frs (l : List Env) : List Addr := l.filterMap (·.frame)
noncomputable abbrev Cx.fs (X : Cx) : List Addr := frs X.outer
noncomputable def Vis (sc : Scope) (x : Str) : Prop := sc.names.lookup x = some .local ∨ sc.names.lookup x = some .cell ∨ sc.names.lookup x = some .free
noncomputable def Loc (sc : Scope) (x : Str) : Prop := sc.names.lookup x = some .local ∨ sc.names.lookup x = some .cell
noncomputable def Look (env : Env) (h : Heap) (m : Str → Option Value) (x : Str) (u : Value) : Prop :=
  (env.kindOf x = some .local ∧ m x = some u) ∨ ((env.kindOf x = some .cell ∨ env.kindOf x = some .free) ∧ ∃ c, env.cells.lookup x = some c ∧ h.IsCell c (some u))
structure Cx.Ok (X : Cx) : Prop where
  mod : Mod X.K X.mg X.base
  kind : X.env.scope.kind = .function
  glob : X.env.globals = mainGlobals
  blt : X.env.builtins = builtinsNs
  above : X.s₀.heap.objs.size ≤ X.env.locals
  inj : ∀ x y c, X.env.cells.lookup x = some c → X.env.cells.lookup y = some c → x = y
  has : ∀ x, (X.env.kindOf x = some .cell ∨ X.env.kindOf x = some .free) → ∃ c, X.env.cells.lookup x = some c
  cab : ∀ x c, X.fn x = true → X.env.cells.lookup x = some c → X.s₀.heap.objs.size ≤ c
  hd : X.calm = true → X.A.handled = none
  frames : X.A.frames = some X.stack
  stk : X.stack = X.outer ∨ (X.stack = X.env :: X.outer ∧ X.env.frame = some X.env.locals)
  exf : ∀ b ∈ X.ex, b ≠ X.env.locals ∧ ∀ x c, X.env.cells.lookup x = some c → c ≠ b
  bs : ∀ b o, X.base.get? b = some o → X.s₀.heap.get? b = some o ∧ X.H₀ b = none
  bsz : X.base.objs.size ≤ X.s₀.heap.objs.size
  noex : ∀ b o, X.base.get? b = some o → b ∉ X.ex
  exfs : ∀ b ∈ X.ex, b ∉ X.fs
  funs : X.s₀.heap.FunFrames X.base X.outer
  frf : ∀ b ∈ X.fs, X.H₀ b = none
structure Inv (X : Cx) (pins : List (Addr × Obj)) (σ : List (Option V)) (H : Hp) (s : Shared) : Prop where
  ok : X.Ok
  os : s.os = X.s₀.os
  bare : AllBare s.gens
  base : Un X.fs X.ex X.H₀ H X.s₀.heap s.heap
  loc : ∃ m, s.heap.Ns X.env.locals m ∧ ∀ (i : Nat) (x : Str) (v : V), X.N[i]? = some x → σ[i]? = some (some v) → Vis X.env.scope x → ∃ u, RelV v u ∧ Look X.env s.heap m x u
  cell : ∀ x c, X.env.cells.lookup x = some c → ∃ v, s.heap.IsCell c v
  free : H X.env.locals = none
  freeC : ∀ x c, X.env.cells.lookup x = some c → H c = none
  pin : ∀ p ∈ X.pn ++ pins, s.heap.get? p.1 = some p.2 ∧ H p.1 = none ∧ p.1 ≠ X.env.locals ∧ p.1 ∉ X.fs ∧ ∀ v, p.2.data ≠ .cell v
  hok : HOk X.prog X.w H s.heap
  len : σ.length = X.N.length
section
variable {X : Cx} {pins : List (Addr × Obj)} {σ : List (Option V)} {H H' : Hp} {s : Shared} {h' : Heap}
theorem Cx.Ok.nofr (ok : X.Ok) {b : Addr} {o : Obj} (e : X.base.get? b = some o) : b ∉ X.fs := fun hb => by
  have := (ok.funs.mem hb).1
  rw [e] at this; cases this
theorem Inv.bs (I : Inv X pins σ H s) : ∀ b o, X.base.get? b = some o → s.heap.get? b = some o ∧ H b = none := fun b o e =>
  ⟨I.base.keep b o (I.ok.bs b o e).1 (I.ok.bs b o e).2 (I.ok.nofr e) (I.ok.noex b o e), I.base.free b o (I.ok.bs b o e).1 (I.ok.bs b o e).2 (I.ok.noex b o e)⟩
theorem Inv.bk (I : Inv X pins σ H s) : ∀ b o, X.base.get? b = some o → s.heap.get? b = some o := fun b o e => (I.bs b o e).1
theorem Inv.mod (I : Inv X pins σ H s) : Mod X.K X.mg X.base := I.ok.mod
theorem Inv.kIn (I : Inv X pins σ H s) : X.K.In s.heap := I.ok.mod.kin.keeps I.bk
theorem Inv.lt (I : Inv X pins σ H s) : X.env.locals < s.heap.objs.size := let ⟨_, hn, _⟩ := I.loc; hn.lt
theorem Inv.sz (I : Inv X pins σ H s) : X.s₀.heap.objs.size ≤ s.heap.objs.size := Nat.le_trans I.ok.above (Nat.le_of_lt I.lt)
theorem Inv.nofs (I : Inv X pins σ H s) {a : Addr} (h : s.heap.objs.size ≤ a) : a ∉ X.fs := fun hb => by
  obtain ⟨_, o, ho, _⟩ := I.ok.funs.mem hb
  exact absurd (Nat.lt_of_lt_of_le (Heap.lt_size ho) (Nat.le_trans I.sz h)) (Nat.lt_irrefl _)
theorem Inv.cne (I : Inv X pins σ H s) : ∀ x c, X.env.cells.lookup x = some c → c ≠ X.env.locals := fun x c e z => by
  obtain ⟨v, o, ho, hd⟩ := I.cell x c e
  obtain ⟨m, ⟨o', es, ep, ho', hd', _⟩, _⟩ := I.loc
  rw [z, ho'] at ho; cases ho; rw [hd'] at hd; cases hd
theorem Inv.funs (I : Inv X pins σ H s) : s.heap.FunFrames X.base X.outer := by
  have all : ∀ (l : List Env), (∀ b ∈ frs l, b ∈ X.fs) → X.s₀.heap.FunFrames X.base l → s.heap.FunFrames X.base l := by
    intro l
    induction l with
    | nil => intro _ _; trivial
    | cons env r ih =>
      intro hs hl
      obtain ⟨hk, ⟨L, o, hf, hn, ho, hd⟩, hr⟩ := hl
      have hL : L ∈ X.fs := hs L (by unfold frs; rw [List.filterMap_cons, hf]; exact List.mem_cons_self)
      obtain ⟨sl, e⟩ := I.base.slot L o ho (I.ok.frf L hL) hL fun z => I.ok.exfs L z hL
      exact ⟨hk, ⟨L, _, hf, hn, e, hd⟩, ih (fun b hb => hs b (by unfold frs; rw [List.filterMap_cons, hf]; exact List.mem_cons_of_mem _ hb)) hr⟩
  exact all X.outer (fun _ hb => hb) I.ok.funs
theorem Inv.stack (I : Inv X pins σ H s) : s.heap.FunFrames X.base X.stack := by
  rcases I.ok.stk with e | ⟨e, hf⟩
  · rw [e]; exact I.funs
  · rw [e]
    obtain ⟨m, hn, _⟩ := I.loc
    refine .cons (by rw [I.ok.kind]; decide) hf hn ?_ I.funs
    exact Heap.get?_none_of_le (Nat.le_trans I.ok.bsz I.ok.above)
theorem Inv.stkSub (I : Inv X pins σ H s) : ∀ b ∈ frs X.stack, b ∈ X.env.locals :: X.fs := fun b hb => by
  rcases I.ok.stk with e | ⟨e, hf⟩
  · rw [e] at hb; exact List.mem_cons_of_mem _ hb
  · rw [e] at hb
    unfold frs at hb
    rw [List.filterMap_cons, hf] at hb
    exact hb
theorem Inv.stkFree (I : Inv X pins σ H s) : ∀ b ∈ frs X.stack, H b = none := fun b hb => by
  rcases List.mem_cons.mp (I.stkSub b hb) with e | hb
  · rw [e]; exact I.free
  · obtain ⟨_, o, ho, _⟩ := I.ok.funs.mem hb
    exact I.base.free b o ho (I.ok.frf b hb) fun z => I.ok.exfs b z hb
theorem Inv.step {g' : Array GenState} {t' : Nat} {d' : Drawn} {ch : List Addr} (I : Inv X pins σ H s)
    (hch : ∀ b ∈ ch, (b ∈ X.ex ∨ X.s₀.heap.objs.size ≤ b) ∧ b ≠ X.env.locals ∧ (∀ x c, X.env.cells.lookup x = some c → c ≠ b) ∧ ∀ p ∈ X.pn ++ pins, p.1 ≠ b)
    (keep : ∀ b o, b ≠ X.env.locals → b ∉ X.fs → b ∉ ch → s.heap.get? b = some o → H b = none → h'.get? b = some o)
    (slot : ∀ b o, b ≠ X.env.locals → b ∈ X.fs → b ∉ ch → s.heap.get? b = some o → H b = none → ∃ sl, h'.get? b = some { o with slots := sl }) (free : ∀ b o, b ∉ ch → s.heap.get? b = some o → H b = none → H' b = none)
    (there : ∀ b o, b ∉ ch → s.heap.get? b = some o → ∃ o', h'.get? b = some o')
    (tups : ∀ b xs, H b = some (.tup xs) → H' b = some (.tup xs)) (frzs : ∀ b o u, H b = some (.frz o u) → H' b = some (.frz o u)) (tbls : ∀ b ps, H b = some (.tbl ps) → ∃ more, H' b = some (.tbl (ps ++ more)))
    (ns : ∀ m, s.heap.Ns X.env.locals m → h'.Ns X.env.locals m) (hok : HOk X.prog X.w H' h') (hg : AllBare g') :
    Inv X pins σ H' { s with heap := h', gens := g', drawn := d', toks := t' } := by
  have neL : ∀ b o, X.s₀.heap.get? b = some o → b ≠ X.env.locals := fun b o e => Nat.ne_of_lt (Nat.lt_of_lt_of_le (Heap.lt_size e) I.ok.above)
  have neC : ∀ b o, X.s₀.heap.get? b = some o → b ∉ X.ex → b ∉ ch := fun b o e hx hb => by
    rcases (hch b hb).1 with z | z
    · exact hx z
    · exact absurd (Nat.lt_of_lt_of_le (Heap.lt_size e) z) (Nat.lt_irrefl _)
  have cellK : ∀ x c, X.env.cells.lookup x = some c → ∀ v, s.heap.IsCell c v → h'.IsCell c v := fun x c e v ⟨o, ho, hd⟩ => by
    have nch : c ∉ ch := fun z => (hch c z).2.2.1 x c e rfl
    by_cases hc : c ∈ X.fs
    · obtain ⟨sl, q⟩ := slot c o (I.cne x c e) hc nch ho (I.freeC x c e)
      exact ⟨_, q, hd⟩
    · exact ⟨o, keep c o (I.cne x c e) hc nch ho (I.freeC x c e), hd⟩
  refine ⟨I.ok, I.os, hg, ⟨fun b o e n hb hx => ?_, fun b o e n hb hx => ?_, fun b o e n hx => ?_, fun b o e hx => ?_, fun b xs e => tups b xs (I.base.tups b xs e), fun b o xs e => frzs b o xs (I.base.frzs b o xs e), fun b ps e => ?_⟩, ?_, fun x c e => ?_, ?_, fun x c e => ?_, fun p hp => ?_, hok, I.len⟩
  · exact keep b o (neL b o e) hb (neC b o e hx) (I.base.keep b o e n hb hx) (I.base.free b o e n hx)
  · obtain ⟨sl, e1⟩ := I.base.slot b o e n hb hx
    obtain ⟨sl', e2⟩ := slot b _ (neL b o e) hb (neC b o e hx) e1 (I.base.free b o e n hx)
    exact ⟨sl', e2⟩
  · obtain ⟨o', e1⟩ := I.base.there b o e hx
    exact free b o' (neC b o e hx) e1 (I.base.free b o e n hx)
  · obtain ⟨o', e1⟩ := I.base.there b o e hx
    exact there b o' (neC b o e hx) e1
  · obtain ⟨m1, e1⟩ := I.base.tbls b ps e
    obtain ⟨m2, e2⟩ := tbls b _ e1
    exact ⟨m1 ++ m2, by rw [e2, Array.append_assoc]⟩
  · obtain ⟨m, hn, hl⟩ := I.loc
    refine ⟨m, ns m hn, fun i x v e1 e2 e3 => ?_⟩
    obtain ⟨u, r, l⟩ := hl i x v e1 e2 e3
    refine ⟨u, r, ?_⟩
    rcases l with l | ⟨k, c, e, z⟩
    · exact .inl l
    · exact .inr ⟨k, c, e, cellK x c e _ z⟩
  · obtain ⟨v, z⟩ := I.cell x c e
    exact ⟨v, cellK x c e v z⟩
  · obtain ⟨m, ⟨o, _, _, ho, _⟩, _⟩ := I.loc
    exact free _ o (fun z => (hch _ z).2.1 rfl) ho I.free
  · obtain ⟨v, o, ho, hd⟩ := I.cell x c e
    exact free c o (fun z => (hch c z).2.2.1 x c e rfl) ho (I.freeC x c e)
  · obtain ⟨e, n, ne, nf, d⟩ := I.pin p hp
    have nch : p.1 ∉ ch := fun z => (hch p.1 z).2.2.2 p hp rfl
    exact ⟨keep p.1 p.2 ne nf nch e n, free p.1 p.2 nch e n, ne, nf, d⟩
theorem Inv.un {t' : Nat} (I : Inv X pins σ H s) (u : Un X.fs [] H H' s.heap h') (hok : HOk X.prog X.w H' h') : Inv X pins σ H' { s with heap := h', toks := t' } := by
  obtain ⟨m, ⟨o, es, ep, ho, r⟩, _⟩ := id I.loc
  obtain ⟨sl, hL⟩ := u.any ho I.free (by simp)
  exact I.step (g' := s.gens) (d' := s.drawn) (ch := []) (fun _ z => nomatch z) (fun b o _ hb _ e n => u.keep b o e n hb (by simp)) (fun b o _ hb _ e n => u.slot b o e n hb (by simp)) (fun b o _ e n => u.free b o e n (by simp)) (fun b o _ e => u.there b o e (by simp)) u.tups u.frzs u.tbls (fun m' hm => by
    obtain ⟨o', es', ep', ho', r'⟩ := hm
    rw [ho] at ho'; cases ho'
    exact ⟨_, es', ep', hL, r'⟩) hok I.bare
theorem Inv.call {g' : Array GenState} {t' : Nat} {d' : Drawn} {ch : List Addr} (I : Inv X pins σ H s) (u : Un (frs X.stack) ch H H' s.heap h') (hok : HOk X.prog X.w H' h') (hg : AllBare g')
    (hch : ∀ b ∈ ch, (b ∈ X.ex ∨ X.s₀.heap.objs.size ≤ b) ∧ b ≠ X.env.locals ∧ (∀ x c, X.env.cells.lookup x = some c → c ≠ b) ∧ ∀ p ∈ X.pn ++ pins, p.1 ≠ b) :
    Inv X pins σ H' { s with heap := h', gens := g', drawn := d', toks := t' } := by
  obtain ⟨m, ⟨o, es, ep, ho, r⟩, _⟩ := id I.loc
  obtain ⟨sl, hL⟩ := u.any ho I.free fun z => (hch _ z).2.1 rfl
  exact I.step (ch := ch) hch (fun b o hL hb hc e n => u.keep b o e n (fun z => (List.mem_cons.mp (I.stkSub b z)).elim hL hb) hc) (fun b o _ _ hc e n => u.any e n hc) (fun b o hc e n => u.free b o e n hc) (fun b o hc e => u.there b o e hc) u.tups u.frzs u.tbls (fun m' hm => by
    obtain ⟨o', es', ep', ho', r'⟩ := hm
    rw [ho] at ho'; cases ho'
    exact ⟨_, es', ep', hL, r'⟩) hok hg
theorem Inv.turned {t' : Nat} {it : Addr} (I : Inv X pins σ H s) (k : ∀ b o, b ≠ it → s.heap.get? b = some o → h'.get? b = some o) (hn : H it = none) (hL : it ≠ X.env.locals)
    (h1 : it ∈ X.ex ∨ X.s₀.heap.objs.size ≤ it) (h2 : ∀ x c, X.env.cells.lookup x = some c → c ≠ it) (h3 : ∀ p ∈ X.pn ++ pins, p.1 ≠ it) : Inv X pins σ H { s with heap := h', toks := t' } := by
  have nit : ∀ b u, H b = some u → b ≠ it := fun b u e z => by rw [z, hn] at e; cases e
  refine I.step (g' := s.gens) (d' := s.drawn) (ch := [it]) (fun b hb => ?_) (fun b o _ _ hc e _ => k b o (fun z => hc (by simp [z])) e) (fun b o _ _ hc e _ => ⟨o.slots, k b o (fun z => hc (by simp [z])) e⟩) (fun _ _ _ _ n => n)
    (fun b o hc e => ⟨o, k b o (fun z => hc (by simp [z])) e⟩) (fun _ _ e => e) (fun _ _ _ e => e) (fun b ps e => ⟨#[], by rw [e]; simp⟩) (fun m hm => ?_) (fun b u e => ?_) I.bare
  · have e : b = it := by simpa using hb
    subst e
    exact ⟨h1, hL, h2, h3⟩
  · obtain ⟨o, es, ep, ho, r⟩ := hm
    exact ⟨o, es, ep, k _ o (Ne.symm hL) ho, r⟩
  · refine (I.hok b u e).stay (fun c v hc q => k c v ?_ q) (fun _ q => q) fun _ _ q => q
    rcases hc with z | z
    · rw [z]; exact nit b u e
    · exact nit c _ z
theorem Inv.tok (I : Inv X pins σ H s) (t : Nat) : Inv X pins σ H { s with toks := t } := I.un (h' := s.heap) (t' := t) Un.refl I.hok
theorem Inv.kept {t' : Nat} (I : Inv X pins σ H s) (k : ∀ b u, s.heap.get? b = some u → h'.get? b = some u) : Inv X pins σ H { s with heap := h', toks := t' } := I.un (Un.kept k) (I.hok.kept k)
theorem Inv.laid {a : Addr} {o : HO} {t' : Nat} (I : Inv X pins σ H s) (k : ∀ b u, s.heap.get? b = some u → h'.get? b = some u) (hp : s.heap.objs.size ≤ a) (new : ObjOk X.prog X.w (upd H a o) h' a o) :
    Inv X pins σ (upd H a o) { s with heap := h', toks := t' } := I.un (Un.laid k hp (I.hok.fresh hp)) (I.hok.laid k hp new)
theorem Inv.write {x e : Addr} {o : HO} {t' : Nat} (I : Inv X pins σ H s) (mu : Mut (H x)) (he : e = x ∨ H e = some (.own x)) (k : ∀ b u, b ≠ e → s.heap.get? b = some u → h'.get? b = some u) (heo : ∃ u, h'.get? e = some u)
    (new : ObjOk X.prog X.w (upd H x o) h' x o) : Inv X pins σ (upd H x o) { s with heap := h', toks := t' } := I.un (Un.write mu he k heo) (I.hok.write mu he k heo new)
theorem Inv.weak {σ' : List (Option V)} (I : Inv X pins σ H s) (hl : σ'.length = σ.length) (w : ∀ (i : Nat) v, σ'[i]? = some (some v) → σ[i]? = some (some v)) : Inv X pins σ' H s :=
  ⟨I.ok, I.os, I.bare, I.base, let ⟨m, hn, hl'⟩ := I.loc; ⟨m, hn, fun i x v e1 e2 e3 => hl' i x v e1 (w i v e2) e3⟩, I.cell, I.free, I.freeC, I.pin, I.hok, hl.trans I.len⟩
theorem Inv.pins_of {pins' : List (Addr × Obj)} (I : Inv X pins σ H s) (h : ∀ p ∈ pins', s.heap.get? p.1 = some p.2 ∧ H p.1 = none ∧ p.1 ≠ X.env.locals ∧ p.1 ∉ X.fs ∧ ∀ v, p.2.data ≠ .cell v) : Inv X pins' σ H s :=
  ⟨I.ok, I.os, I.bare, I.base, I.loc, I.cell, I.free, I.freeC, fun p hp => (List.mem_append.mp hp).elim (fun z => I.pin p (List.mem_append_left _ z)) (h p), I.hok, I.len⟩
theorem nodup_ix {N : List Str} (hN : N.Nodup) {i j : Nat} {x : Str} (a : N[i]? = some x) (b : N[j]? = some x) : i = j := by
  obtain ⟨h1, e1⟩ := List.getElem?_eq_some_iff.mp a
  obtain ⟨h2, e2⟩ := List.getElem?_eq_some_iff.mp b
  exact (List.getElem_inj hN).mp (e1.trans e2.symm)
theorem store_ok2 {M : Model} {A : Around} {E : Value → Shared → Prop} {i : Nat} {x : Str} {v : V} {u : Value} {Q : Unit → Shared → Prop} (I : Inv X pins σ H s) (hN : X.N.Nodup) (hi : X.N[i]? = some x) (hx : Loc X.env.scope x) (r : RelV v u)
    (h : ∀ s', Inv X pins (σ.set i (some v)) H s' → (∃ a, Heap.SameBut a s.heap s'.heap ∧ (a = X.env.locals ∨ X.env.cells.lookup x = some a)) → Q () s') (hf : X.fn x = true ∨ X.env.scope.names.lookup x = some .local := by with_unfolding_all (first | exact .inl rfl | exact .inr rfl | assumption)) : wpAny M A (storeName X.env x u) Q E s := by
  obtain ⟨m, hn, hl⟩ := id I.loc
  have hcls : (X.env.scope.kind == .class || (X.env.scope.kind == .module && X.env.locals != X.env.globals)) = false := by rw [I.ok.kind]; rfl
  have hiσ : i < σ.length := by rw [I.len]; exact (List.getElem?_eq_some_iff.mp hi).1
  have cne := I.cne
  have tracked : ∀ {a : Addr} {h' : Heap}, (∃ o, s.heap.get? a = some o ∧ H a = none) → Heap.SameBut a s.heap h' → HOk X.prog X.w H h' := fun {a h'} ha hs b ob e => by
    obtain ⟨_, _, hfree⟩ := ha
    refine (I.hok b ob e).stay (fun c w' hc q => (hs.2 c ?_).trans q) (fun _ q => q) fun _ _ q => q
    rintro rfl
    rcases hc with rfl | hc
    · rw [hfree] at e; cases e
    · rw [hfree] at hc; cases hc
  rcases hx with hk | hk
  · refine wpAny_storeName_local hk hn (fun h' hn' hs => ?_) hcls
    obtain ⟨oL, _, _, hoL, _⟩ := id hn
    refine h _ ⟨I.ok, I.os, I.bare, ⟨fun b o e n hb hx => ?_, fun b o e n hb hx => ?_, I.base.free, fun b o e hx => ?_, I.base.tups, I.base.frzs, I.base.tbls⟩, ⟨_, hn', fun j y v' e1 e2 e3 => ?_⟩, fun y c e => ?_, I.free, I.freeC, fun p hp => ?_, tracked ⟨oL, hoL, I.free⟩ hs, by simpa using I.len⟩ ⟨_, hs, .inl rfl⟩
    · exact (hs.2 b (Nat.ne_of_lt (Nat.lt_of_lt_of_le (Heap.lt_size e) I.ok.above))).trans (I.base.keep b o e n hb hx)
    · obtain ⟨sl, e1⟩ := I.base.slot b o e n hb hx
      exact ⟨sl, (hs.2 b (Nat.ne_of_lt (Nat.lt_of_lt_of_le (Heap.lt_size e) I.ok.above))).trans e1⟩
    · obtain ⟨o', e1⟩ := I.base.there b o e hx
      exact ⟨o', (hs.2 b (Nat.ne_of_lt (Nat.lt_of_lt_of_le (Heap.lt_size e) I.ok.above))).trans e1⟩
    · by_cases hj : j = i
      · subst hj
        rw [hi] at e1; cases e1
        rw [List.getElem?_set_self hiσ] at e2
        cases e2
        exact ⟨u, r, .inl ⟨hk, by simp⟩⟩
      · rw [List.getElem?_set_ne (Ne.symm hj)] at e2
        obtain ⟨u', r', q⟩ := hl j y v' e1 e2 e3
        refine ⟨u', r', ?_⟩
        rcases q with ⟨k, e⟩ | ⟨k, c, e, z⟩
        · refine .inl ⟨k, ?_⟩
          have : y ≠ x := fun e => hj (nodup_ix hN e1 (e ▸ hi))
          simp [this, e]
        · exact .inr ⟨k, c, e, z.sameBut hs (cne y c e)⟩
    · obtain ⟨w', z⟩ := I.cell y c e
      exact ⟨w', z.sameBut hs (cne y c e)⟩
    · obtain ⟨e, n, ne, nf, d⟩ := I.pin p hp
      exact ⟨(hs.2 p.1 ne).trans e, n, ne, nf, d⟩
  · have hfn : X.fn x = true := by
      rcases hf with z | z
      · exact z
      · rw [z] at hk; cases hk
    obtain ⟨c, hc⟩ := I.ok.has x (.inl hk)
    obtain ⟨w', z⟩ := I.cell x c hc
    refine wpAny_storeName_cell I.ok.kind hk hc z (fun h' hc' hs => ?_)
    obtain ⟨oc, hoc, hocd⟩ := id z
    refine h { s with heap := h' } ⟨I.ok, I.os, I.bare, ⟨fun b o e n hb hx => ?_, fun b o e n hb hx => ?_, I.base.free, fun b o e hx => ?_, I.base.tups, I.base.frzs, I.base.tbls⟩, ⟨m, hn.sameBut hs (Ne.symm (cne x c hc)), fun j y v' e1 e2 e3 => ?_⟩, fun y c' e => ?_, I.free, I.freeC, fun p hp => ?_, tracked ⟨oc, hoc, I.freeC x c hc⟩ hs, by simpa using I.len⟩ ⟨c, hs, .inr hc⟩
    · exact (hs.2 b (Nat.ne_of_lt (Nat.lt_of_lt_of_le (Heap.lt_size e) (I.ok.cab x c hfn hc)))).trans (I.base.keep b o e n hb hx)
    · obtain ⟨sl, e1⟩ := I.base.slot b o e n hb hx
      exact ⟨sl, (hs.2 b (Nat.ne_of_lt (Nat.lt_of_lt_of_le (Heap.lt_size e) (I.ok.cab x c hfn hc)))).trans e1⟩
    · obtain ⟨o', e1⟩ := I.base.there b o e hx
      exact ⟨o', (hs.2 b (Nat.ne_of_lt (Nat.lt_of_lt_of_le (Heap.lt_size e) (I.ok.cab x c hfn hc)))).trans e1⟩
    · by_cases hj : j = i
      · subst hj
        rw [hi] at e1; cases e1
        rw [List.getElem?_set_self hiσ] at e2
        cases e2
        exact ⟨u, r, .inr ⟨.inl hk, c, hc, hc'⟩⟩
      · rw [List.getElem?_set_ne (Ne.symm hj)] at e2
        obtain ⟨u', r', q⟩ := hl j y v' e1 e2 e3
        refine ⟨u', r', ?_⟩
        rcases q with q | ⟨k, c', e, z'⟩
        · exact .inl q
        · refine .inr ⟨k, c', e, z'.sameBut hs ?_⟩
          rintro rfl
          exact hj (nodup_ix hN e1 (I.ok.inj _ _ _ e hc ▸ hi))
    · by_cases hcc : c' = c
      · subst hcc; exact ⟨_, hc'⟩
      · obtain ⟨w2, z2⟩ := I.cell y c' e
        exact ⟨w2, z2.sameBut hs hcc⟩
    · obtain ⟨e, n, ne, nf, d⟩ := I.pin p hp
      refine ⟨(hs.2 p.1 ?_).trans e, n, ne, nf, d⟩
      intro q
      rw [q, hoc] at e
      have q' : oc = p.2 := Option.some.inj e
      exact d w' (by rw [← q']; exact hocd)
theorem store_ok {M : Model} {A : Around} {E : Value → Shared → Prop} {i : Nat} {x : Str} {v : V} {u : Value} {Q : Unit → Shared → Prop} (I : Inv X pins σ H s) (hN : X.N.Nodup) (hi : X.N[i]? = some x) (hx : Loc X.env.scope x) (r : RelV v u)
    (h : ∀ s', Inv X pins (σ.set i (some v)) H s' → Q () s') (hf : X.fn x = true ∨ X.env.scope.names.lookup x = some .local := by with_unfolding_all (first | exact .inl rfl | exact .inr rfl | assumption)) : wpAny M A (storeName X.env x u) Q E s :=
  store_ok2 I hN hi hx r (fun s' I' _ => h s' I') hf
theorem Inv.call' {s' : Shared} {ch : List Addr} (I : Inv X pins σ H s) (ho : s'.os = s.os) (u : Un (frs X.stack) ch H H' s.heap s'.heap) (hok : HOk X.prog X.w H' s'.heap) (hg : AllBare s'.gens)
    (hch : ∀ b ∈ ch, (b ∈ X.ex ∨ X.s₀.heap.objs.size ≤ b) ∧ b ≠ X.env.locals ∧ (∀ x c, X.env.cells.lookup x = some c → c ≠ b) ∧ ∀ p ∈ X.pn ++ pins, p.1 ≠ b) : Inv X pins σ H' s' := by
  obtain ⟨h', g', d', t', o'⟩ := s'
  have e : o' = s.os := ho
  subst e
  exact I.call (g' := g') (t' := t') (d' := d') u hok hg hch
end
noncomputable abbrev XK := Value → Option Addr → Hp → Prop
noncomputable abbrev St := List (Option V)
noncomputable abbrev VK := V → Hp → Prop
noncomputable abbrev TE := St → Hp → VK → Prop
noncomputable abbrev TT := St → Hp → (Bool → Hp → Prop) → Prop
noncomputable abbrev TA := St → Hp → (List V → Hp → Prop) → Prop
structure Ends where
  nx : St → Hp → Prop
  rt : VK
  bk : St → Hp → Prop := fun _ _ => False
  ct : St → Hp → Prop := fun _ _ => False
noncomputable abbrev TS := Ends → St → Hp → Prop
noncomputable def EP (X : Cx) (pins : List (Addr × Obj)) (σ : St) (Q : VK) (u : Value) (s' : Shared) : Prop := ∃ v H', Inv X pins σ H' s' ∧ RelV v u ∧ Q v H'
noncomputable def TP (X : Cx) (pins : List (Addr × Obj)) (σ : St) (Q : Bool → Hp → Prop) (b : Bool) (s' : Shared) : Prop := ∃ H', Inv X pins σ H' s' ∧ Q b H'
noncomputable def AP (X : Cx) (pins : List (Addr × Obj)) (σ : St) (Q : List V → Hp → Prop) (us : List Value) (s' : Shared) : Prop := ∃ vs H', Inv X pins σ H' s' ∧ Vals vs us ∧ Q vs H'
noncomputable def SP (X : Cx) (pins : List (Addr × Obj)) (D : Ends) (f : Flow) (s' : Shared) : Prop :=
  match f with
  | .next => ∃ σ' H', Inv X pins σ' H' s' ∧ D.nx σ' H'
  | .brk => ∃ σ' H', Inv X pins σ' H' s' ∧ D.bk σ' H'
  | .cont => ∃ σ' H', Inv X pins σ' H' s' ∧ D.ct σ' H'
  | .ret u => ∃ v σ' H', Inv X pins σ' H' s' ∧ RelV v u ∧ D.rt v H'
noncomputable def PE (X : Cx) (e : Expr) (t : TE) : Prop :=
  ∀ (pins : List (Addr × Obj)) (s : Shared) (σ : St) (H : Hp) (Q : VK), Inv X pins σ H s → t σ H Q → wpAny (model X.prog X.w) X.A (eval e X.env) (EP X pins σ Q) X.xe s
noncomputable def PT (X : Cx) (e : Expr) (t : TT) : Prop :=
  ∀ (pins : List (Addr × Obj)) (s : Shared) (σ : St) (H : Hp) (Q : Bool → Hp → Prop), Inv X pins σ H s → t σ H Q → wpAny (model X.prog X.w) X.A (isTrue e X.env (eval e X.env)) (TP X pins σ Q) X.xe s
noncomputable def PW (X : Cx) (e : Expr) (t : TT) : Prop :=
  ∀ (whole : Sem Value) (pins : List (Addr × Obj)) (s : Shared) (σ : St) (H : Hp) (Q : Bool → Hp → Prop), Inv X pins σ H s → t σ H Q → wpAny (model X.prog X.w) X.A (isTrue e X.env whole) (TP X pins σ Q) X.xe s
theorem PW.pt {X : Cx} {e : Expr} {t : TT} (h : PW X e t) : PT X e t := h _
noncomputable def PA (X : Cx) (es : List Expr) (t : TA) : Prop :=
  ∀ (pos : Pos) (pins : List (Addr × Obj)) (s : Shared) (σ : St) (H : Hp) (Q : List V → Hp → Prop), Inv X pins σ H s → t σ H Q → wpAny (model X.prog X.w) X.A (spliced (backTo pos (starEach es X.env))) (AP X pins σ Q) X.xe s
noncomputable def PS (X : Cx) (st : Stmt) (t : TS) : Prop :=
  ∀ (pins : List (Addr × Obj)) (s : Shared) (σ : St) (H : Hp) (D : Ends), Inv X pins σ H s → t D σ H → wpAny (model X.prog X.w) X.A (exec st X.env) (SP X pins D) X.xe s
noncomputable def PSs (X : Cx) (st : List Stmt) (t : TS) : Prop :=
  ∀ (pins : List (Addr × Obj)) (s : Shared) (σ : St) (H : Hp) (D : Ends), Inv X pins σ H s → t D σ H → wpAny (model X.prog X.w) X.A (execs st X.env) (SP X pins D) X.xe s
theorem thn {α : Type} {t : Sem α} {Q Q' : α → Shared → Prop} {M : Model} {A : Around} {E : Value → Shared → Prop} {s : Shared} (h : wpAny M A t Q E s) (hQ : ∀ a s, Q a s → Q' a s) : wpAny M A t Q' E s := wpAny_mono h hQ fun _ _ x => x
end L2
namespace L2
open PySem PySem.Spec PyProof.Rows
section
variable {X : Cx}
noncomputable def tVar (i : Nat) : TE := fun σ H Q => ∃ v, σ[i]? = some (some v) ∧ Q v H
noncomputable def tC (v : V) : TE := fun _ H Q => Q v H
theorem pe_var {i : Nat} {x : Str} {pos : Pos} (hN : X.N[i]? = some x) (hv : Vis X.env.scope x) (hd : (x == ("__debug__" : Str)) = false := by decide) (hcd : (x == ("__classdict__" : Str)) = false := by decide) : PE X (.Name x pos) (tVar i) := by
  intro pins s σ H Q I h
  obtain ⟨v, e, h⟩ := h
  obtain ⟨m, hn, hl⟩ := I.loc
  obtain ⟨u, r, l⟩ := hl i x v hN e hv
  have fin : EP X pins σ Q u s := ⟨v, H, I, r, h⟩
  rcases l with ⟨hk, hm⟩ | ⟨hk, c, hc, hcell⟩
  · exact wpAny_Name (wpAny_loadName_local I.ok.kind hk hn hm fin) hd
  · rcases hk with hk | hk
    · exact wpAny_Name (wpAny_loadName_cell I.ok.kind hk hc hcell fin) hd
    · exact wpAny_Name (wpAny_loadName_free I.ok.kind hk hc hcell fin hcd) hd
theorem pe_int {i j pos} : PE X (.Constant (.int i) j pos) (tC (.int i)) := fun _ _ _ H _ I h => wpAny_Constant_int ⟨.int i, H, I.tok _, ⟨_, rfl⟩, h⟩
theorem pe_bl {b j pos} : PE X (.Constant (.bool b) j pos) (tC (.bl b)) := fun _ _ _ H _ I h => Constant_bool ⟨.bl b, H, I, rfl, h⟩
theorem pe_non {j pos} : PE X (.Constant .none j pos) (tC .non) := fun _ _ _ H _ I h => Constant_none ⟨.non, H, I, rfl, h⟩
theorem pe_str {x j pos} : PE X (.Constant (.str x) j pos) (tC (.str x)) := fun _ _ _ H _ I h => Calls.Constant_str ⟨.str x, H, I.tok _, ⟨_, rfl⟩, h⟩
noncomputable def Gl (X : Cx) (x : Str) : Prop := X.env.kindOf x = some .globalImplicit
theorem ld_glob {E : Value → Shared → Prop} {pins : List (Addr × Obj)} {s : Shared} {σ : St} {H : Hp} {x : Str} {u : Value} {pos : Pos} {Q : Value → Shared → Prop} (I : Inv X pins σ H s) (hg : Gl X x) (hm : X.mg x = some u) (h : Q u s)
    (hd : (x == ("__debug__" : Str)) = false := by decide) : wpAny (model X.prog X.w) X.A (eval (.Name x pos) X.env) Q E s :=
  Calls.Name_function_global I.ok.kind hg (Calls.loadGlobal_global (by rw [I.ok.glob]; exact I.mod.glob.keeps I.bk) hm h) hd
theorem ld_blt {E : Value → Shared → Prop} {pins : List (Addr × Obj)} {s : Shared} {σ : St} {H : Hp} {x : Str} {u : Value} {pos : Pos} {Q : Value → Shared → Prop} (I : Inv X pins σ H s) (hg : Gl X x) (hm : X.mg x = none) (hv : bootBuiltins x = some u) (h : Q u s)
    (hn : x ≠ "__name__" := by decide) (hd : (x == ("__debug__" : Str)) = false := by decide) : wpAny (model X.prog X.w) X.A (eval (.Name x pos) X.env) Q E s := by
  obtain ⟨mb, h1, h2⟩ := I.mod.blt
  exact Calls.Name_function_global I.ok.kind hg (Calls.loadGlobal_builtin (by rw [I.ok.glob]; exact I.mod.glob.keeps I.bk) hm (by rw [I.ok.blt]; exact h1.keeps I.bk) ((h2 x hn).trans hv) h) hd
theorem pe_glob {x : Str} {v : V} {u : Value} {pos : Pos} (hg : Gl X x) (hm : X.mg x = some u) (r : RelV v u) (hd : (x == ("__debug__" : Str)) = false := by decide) : PE X (.Name x pos) (tC v) :=
  fun _ _ _ H _ I h => ld_glob I hg hm ⟨v, H, I, r, h⟩ hd
theorem pe_bltn {x : Str} {v : V} {u : Value} {pos : Pos} (hg : Gl X x) (hm : X.mg x = none) (hv : bootBuiltins x = some u) (r : RelV v u) (hn : x ≠ "__name__" := by decide) (hd : (x == ("__debug__" : Str)) = false := by decide) : PE X (.Name x pos) (tC v) :=
  fun _ _ _ H _ I h => ld_blt I hg hm hv ⟨v, H, I, r, h⟩ hn hd
variable {a b : Expr} {ta tb : TE} {pos : Pos}
noncomputable def tB (t : TE) : TT := fun σ H Q => t σ H fun x H1 => ∃ c, x = .bl c ∧ Q c H1
theorem pt_val {e : Expr} {t : TE} (h : PE X e t) (he : ∀ whole, isTrue e X.env whole = (do let v ← whole; standAt e.pos; holding [v] (truthy v)) := by intro _; with_unfolding_all rfl) : PT X e (tB t) := by
  intro pins s σ H Q I hw
  refine isTrue_plain (thn (h pins s σ H _ I hw) fun v s1 ⟨x, H1, I1, r1, q1⟩ => ?_) (he _)
  obtain ⟨d, rfl, q⟩ := q1
  cases r1
  exact wpAny_truthy_bool ⟨H1, I1, q⟩
variable {tA tB' : TT} {rest : List Expr}
noncomputable def tAnd (t u : TT) : TT := fun σ H Q => t σ H fun c H1 => if c = true then u σ H1 Q else Q false H1
noncomputable def tOr (t u : TT) : TT := fun σ H Q => t σ H fun c H1 => if c = true then Q true H1 else u σ H1 Q
noncomputable def tNot (t : TT) : TT := fun σ H Q => t σ H fun c H1 => Q (!c) H1
theorem pw_and1 (ha : PT X a tA) : PW X (.BoolOp .And [a] pos) tA := by
  intro wh pins s σ H Q I h
  refine isTrue_and (thn (ha pins s σ H Q I h) fun c s1 e => ?_)
  cases c with
  | true => exact isTrue_and_nil e
  | false => exact e
theorem pw_or1 (ha : PT X a tA) : PW X (.BoolOp .Or [a] pos) tA := by
  intro wh pins s σ H Q I h
  refine isTrue_or (thn (ha pins s σ H Q I h) fun c s1 e => ?_)
  cases c with
  | false => exact isTrue_or_nil e
  | true => exact e
theorem pw_and (ha : PT X a tA) (hb : PW X (.BoolOp .And (b :: rest) pos) tB') : PW X (.BoolOp .And (a :: b :: rest) pos) (tAnd tA tB') := by
  intro wh pins s σ H Q I h
  refine isTrue_and (thn (ha pins s σ H _ I h) fun c s1 ⟨H1, I1, q1⟩ => ?_)
  cases c with
  | true => exact hb wh pins s1 σ H1 Q I1 q1
  | false => exact ⟨H1, I1, q1⟩
theorem pw_or (ha : PT X a tA) (hb : PW X (.BoolOp .Or (b :: rest) pos) tB') : PW X (.BoolOp .Or (a :: b :: rest) pos) (tOr tA tB') := by
  intro wh pins s σ H Q I h
  refine isTrue_or (thn (ha pins s σ H _ I h) fun c s1 ⟨H1, I1, q1⟩ => ?_)
  cases c with
  | true => exact ⟨H1, I1, q1⟩
  | false => exact hb wh pins s1 σ H1 Q I1 q1
theorem pt_not (ha : PT X a tA) : PT X (.UnaryOp .Not a pos) (tNot tA) := by
  intro pins s σ H Q I h
  exact isTrue_not (ha pins s σ H (fun c H1 => Q (!c) H1) I h)
noncomputable def tAndV (ta tb : TE) : TE := fun σ H Q => ta σ H fun x H1 => ∃ c, x = .bl c ∧ if c = true then tb σ H1 Q else Q (.bl false) H1
noncomputable def tOrV (ta tb : TE) : TE := fun σ H Q => ta σ H fun x H1 => ∃ c, x = .bl c ∧ if c = true then Q (.bl true) H1 else tb σ H1 Q
theorem pe_one {op} {t : TE} (h : PE X a t) : PE X (.BoolOp op [a] pos) t := fun pins s σ H Q I hw => BoolOp_one (h pins s σ H Q I hw)
theorem pe_and (ha : PE X a ta) (hb : PE X (.BoolOp .And (b :: rest) pos) tb) : PE X (.BoolOp .And (a :: b :: rest) pos) (tAndV ta tb) := by
  intro pins s σ H Q I h
  refine BoolOp_and (thn (ha pins s σ H _ I h) fun v s1 ⟨x, H1, I1, r1, q1⟩ => ?_)
  obtain ⟨c, rfl, q1⟩ := q1
  cases r1
  refine wpAny_truthy_bool ?_
  cases c with
  | true => exact hb pins s1 σ H1 Q I1 q1
  | false => exact ⟨.bl false, H1, I1, rfl, q1⟩
theorem pe_or (ha : PE X a ta) (hb : PE X (.BoolOp .Or (b :: rest) pos) tb) : PE X (.BoolOp .Or (a :: b :: rest) pos) (tOrV ta tb) := by
  intro pins s σ H Q I h
  refine BoolOp_or (thn (ha pins s σ H _ I h) fun v s1 ⟨x, H1, I1, r1, q1⟩ => ?_)
  obtain ⟨c, rfl, q1⟩ := q1
  cases r1
  refine wpAny_truthy_bool ?_
  cases c with
  | false => exact hb pins s1 σ H1 Q I1 q1
  | true => exact ⟨.bl true, H1, I1, rfl, q1⟩
end
end L2
namespace L2
open PySem PySem.Spec PyProof.Rows
noncomputable def SqL (K : PySem.W.Frag) (H : Hp) (a : Addr) (xs : List V) : Prop :=
  Rd H a (.lst xs) ∨
    ∃ (o : Obj) (its : Array Value) (n : Nat), K.lookup a = some o ∧ o.cls = .type "list" ∧ o.dict = none ∧ o.data = .seq its n ∧ its.size ≤ sizeLine ∧ Vals xs its.toList
noncomputable def SqT (K : PySem.W.Frag) (H : Hp) (a : Addr) (xs : List V) : Prop :=
  Rd H a (.tup xs) ∨
    ∃ (o : Obj) (its : Array Value) (n : Nat), K.lookup a = some o ∧ o.cls = .type "tuple" ∧ o.data = .seq its n ∧ its.size ≤ sizeLine ∧ Vals xs its.toList ∧ o.dict = none
noncomputable def absV : Value → Option V
  | .none => some .non
  | .bool b => some (.bl b)
  | .int i _ => some (.int i)
  | .str x _ => some (.str x)
  | .bytes b _ => some (.byt b)
  | .float b _ => some (.flt b)
  | .ref a => some (.ref a)
  | .type n => some (.ty n)
  | _ => none
theorem RelV.abs {x : V} {u : Value} (r : RelV x u) : absV u = some x := by
  cases x with
  | non => cases r; rfl
  | bl _ => cases r; rfl
  | int _ => obtain ⟨t, rfl⟩ := r; rfl
  | str _ => obtain ⟨t, rfl⟩ := r; rfl
  | byt _ => obtain ⟨t, rfl⟩ := r; rfl
  | flt _ => obtain ⟨t, rfl⟩ := r; rfl
  | ref _ => cases r; rfl
  | ty _ => cases r; rfl
theorem RelV.inj {x y : V} {u : Value} (r : RelV x u) (q : RelV y u) : x = y := Option.some.inj (r.abs.symm.trans q.abs)
theorem Vals.inj : ∀ {xs ys : List V} {us : List Value}, Vals xs us → Vals ys us → xs = ys
  | _, _, _, .nil, .nil => rfl
  | _, _, _, .cons r t, .cons r' t' => by rw [r.inj r', Vals.inj t t']
section
variable {X : Cx} {pins : List (Addr × Obj)} {σ : St} {H : Hp} {s : Shared} {a : Addr} {xs ys : List V}
theorem SqL.of {K : PySem.W.Frag} (h : H a = some (.lst xs)) : SqL K H a xs := .inl (.inl h)
theorem SqT.of {K : PySem.W.Frag} (h : H a = some (.tup xs)) : SqT K H a xs := .inl (.inl h)
theorem Inv.list (I : Inv X pins σ H s) (h : SqL X.K H a xs) : ∃ its : List Value, Vals xs its ∧ PlainL s.heap a its.toArray ∧ xs.length ≤ sizeLine := by
  rcases h with h | ⟨o, its, n, hk, hc, hd, hs, hz, r⟩
  · obtain ⟨z, its, n, r, e⟩ := h.ok I.hok
    exact ⟨its, r, ⟨_, n, e, rfl, rfl, rfl⟩, z⟩
  · refine ⟨its.toList, r, ⟨o, n, I.kIn a o hk, hc, hd, by simpa using hs⟩, ?_⟩
    have e := r.length
    simp only [Array.length_toList] at e
    omega
theorem Inv.tuple (I : Inv X pins σ H s) (h : SqT X.K H a xs) : ∃ its : List Value, Vals xs its ∧ IsTup s.heap a its.toArray ∧ xs.length ≤ sizeLine := by
  rcases h with h | ⟨o, its, n, hk, hc, hs, hz, r, hn⟩
  · obtain ⟨z, its, r, p⟩ := h.ok I.hok
    exact ⟨its, r, p.tup, z⟩
  · refine ⟨its.toList, r, ⟨o, I.kIn a o hk, hc, n, by simpa using hs⟩, ?_⟩
    have e := r.length
    simp only [Array.length_toList] at e
    omega
theorem Inv.tupleN (I : Inv X pins σ H s) (h : SqT X.K H a xs) : ∃ ob, s.heap.get? a = some ob ∧ ob.dict = none := by
  rcases h with h | ⟨o, its, n, hk, hc, hs, hz, r, hn⟩
  · obtain ⟨z, its, r, o, h1, _, _, h2⟩ := h.ok I.hok
    exact ⟨o, h1, h2⟩
  · exact ⟨o, I.kIn a o hk, hn⟩
theorem Inv.list_inj (I : Inv X pins σ H s) (h : SqL X.K H a xs) (h' : SqL X.K H a ys) : xs = ys := by
  obtain ⟨its, r, ⟨o, n, e, _, _, d⟩, _⟩ := I.list h
  obtain ⟨its', r', ⟨o', n', e', _, _, d'⟩, _⟩ := I.list h'
  rw [e] at e'; cases e'
  rw [d] at d'
  injection d' with d1 _
  have : its = its' := by simpa using congrArg Array.toList d1
  subst this
  exact r.inj r'
theorem Inv.tuple_inj (I : Inv X pins σ H s) (h : SqT X.K H a xs) (h' : SqT X.K H a ys) : xs = ys := by
  obtain ⟨its, r, ⟨o, e, _, n, d⟩, _⟩ := I.tuple h
  obtain ⟨its', r', ⟨o', e', _, n', d'⟩, _⟩ := I.tuple h'
  rw [e] at e'; cases e'
  rw [d] at d'
  injection d' with d1 _
  have : its = its' := by simpa using congrArg Array.toList d1
  subst this
  exact r.inj r'
end
noncomputable abbrev Cx.wish (X : Cx) (E : Value → Shared → Prop) : Cx := { X with xe := E }
noncomputable abbrev Cx.nox (X : Cx) : Cx := X.wish fun _ _ => False
theorem Cx.Ok.wish {X : Cx} (ok : X.Ok) (E : Value → Shared → Prop) : (X.wish E).Ok :=
  ⟨ok.mod, ok.kind, ok.glob, ok.blt, ok.above, ok.inj, ok.has, ok.cab, ok.hd, ok.frames, ok.stk, ok.exf, ok.bs, ok.bsz, ok.noex, ok.exfs, ok.funs, ok.frf⟩
theorem Cx.Ok.unwish {X : Cx} {E : Value → Shared → Prop} (ok : (X.wish E).Ok) : X.Ok :=
  ⟨ok.mod, ok.kind, ok.glob, ok.blt, ok.above, ok.inj, ok.has, ok.cab, ok.hd, ok.frames, ok.stk, ok.exf, ok.bs, ok.bsz, ok.noex, ok.exfs, ok.funs, ok.frf⟩
section
variable {X : Cx} {pins : List (Addr × Obj)} {σ : St} {H : Hp} {s : Shared} {E : Value → Shared → Prop}
theorem Inv.wish (I : Inv X pins σ H s) (E : Value → Shared → Prop) : Inv (X.wish E) pins σ H s := ⟨I.ok.wish E, I.os, I.bare, I.base, I.loc, I.cell, I.free, I.freeC, I.pin, I.hok, I.len⟩
theorem Inv.unwish (I : Inv (X.wish E) pins σ H s) : Inv X pins σ H s := ⟨I.ok.unwish, I.os, I.bare, I.base, I.loc, I.cell, I.free, I.freeC, I.pin, I.hok, I.len⟩
theorem SP.unwish {D : Ends} {f : Flow} {s' : Shared} (h : SP (X.wish E) pins D f s') : SP X pins D f s' := by
  cases f with
  | next => obtain ⟨σ', H', I, q⟩ := h; exact ⟨σ', H', I.unwish, q⟩
  | brk => obtain ⟨σ', H', I, q⟩ := h; exact ⟨σ', H', I.unwish, q⟩
  | cont => obtain ⟨σ', H', I, q⟩ := h; exact ⟨σ', H', I.unwish, q⟩
  | ret u => obtain ⟨v, σ', H', I, r, q⟩ := h; exact ⟨v, σ', H', I.unwish, r, q⟩
theorem PSs.nox {st : List Stmt} {t : TS} (h : PSs X.nox st t) : PSs X st t := fun pins s σ H D I hw =>
  wpAny_mono (h pins s σ H D (I.wish _) hw) (fun _ _ q => q.unwish) fun _ _ z => False.elim z
end
section
variable {X : Cx} {st : Stmt} {rest : List Stmt} {t u : TS} {e : Expr} {te : TE} {pos : Pos}
noncomputable def tNext : TS := fun D σ H => D.nx σ H
noncomputable def tSeq (t u : TS) : TS := fun D σ H => t { D with nx := u D } σ H
theorem pss_nil : PSs X [] tNext := fun _ _ σ H _ I h => wpAny_execs_nil ⟨σ, H, I, h⟩
theorem pss_cons (h1 : PS X st t) (h2 : PSs X rest u) : PSs X (st :: rest) (tSeq t u) := by
  intro pins s σ H D I h
  refine wpAny_execs_cons (thn (h1 pins s σ H { D with nx := u D } I h) fun f s1 q => ?_)
  cases f with
  | next =>
    obtain ⟨σ', H', I', q⟩ := q
    exact h2 pins s1 σ' H' D I' q
  | ret v => exact q
  | brk => exact q
  | cont => exact q
theorem pss_one (h1 : PS X st t) : PSs X [st] t := by
  intro pins s σ H D I h
  refine wpAny_execs_cons (thn (h1 pins s σ H D I h) fun f s1 q => ?_)
  cases f with
  | next => exact wpAny_execs_nil q
  | ret v => exact q
  | brk => exact q
  | cont => exact q
theorem Inv.quiet {pins : List (Addr × Obj)} {σ : St} {H : Hp} {s : Shared} (I : Inv X pins σ H s) : interactive X.env = false := by simp [interactive, I.ok.kind]
noncomputable def tDrop (te : TE) : TS := fun D σ H => te σ H fun _ H1 => D.nx σ H1
theorem ps_expr (he : PE X e te) (hs : swapsWith e none pos.line X.env = pure false := by with_unfolding_all rfl) : PS X (.Expr e pos) (tDrop te) := by
  intro pins s σ H D I h
  exact wpAny_Expr_any (thn (he pins s σ H _ I h) fun v s1 ⟨x, H1, I1, r1, q1⟩ => ⟨σ, H1, I1, q1⟩) I.quiet hs
noncomputable def tRet (te : TE) : TS := fun D σ H => te σ H D.rt
theorem ps_ret (he : PE X e te) : PS X (.Return (some e) pos) (tRet te) := by
  intro pins s σ H D I h
  exact wpAny_Return_some (thn (he pins s σ H _ I h) fun v s1 ⟨x, H1, I1, r1, q1⟩ => ⟨x, σ, H1, I1, r1, q1⟩)
noncomputable def tIfS (c : TT) (t u : TS) : TS := fun D σ H => c σ H fun b H1 => if b = true then t D σ H1 else u D σ H1
theorem ps_if {c : Expr} {a b : List Stmt} {tc : TT} (hc : PT X c tc) (ha : PSs X a t) (hb : PSs X b u) : PS X (.If c a b pos) (tIfS tc t u) := by
  intro pins s σ H D I h
  refine wpAny_If (thn (hc pins s σ H _ I h) fun d s1 ⟨H1, I1, q1⟩ => ?_)
  cases d with
  | true => exact ha pins s1 σ H1 D I1 q1
  | false => exact hb pins s1 σ H1 D I1 q1
noncomputable def tNever : TS := fun _ _ _ => False
theorem ps_never : PS X st tNever := fun _ _ _ _ _ _ h => h.elim
end
noncomputable abbrev TG := V → St → Hp → (St → Hp → Prop) → Prop
noncomputable abbrev TGs := List V → St → Hp → (St → Hp → Prop) → Prop
noncomputable def PG (X : Cx) (target : Expr) (t : TG) : Prop :=
  ∀ (pins : List (Addr × Obj)) (s : Shared) (σ : St) (H : Hp) (v : V) (u : Value) (Q : St → Hp → Prop), Inv X pins σ H s → RelV v u → t v σ H Q →
    wpAny (model X.prog X.w) X.A (assign target X.env u) (fun _ s' => ∃ σ' H', Inv X pins σ' H' s' ∧ Q σ' H') X.xe s
noncomputable def PGs (X : Cx) (ts : List Expr) (t : TGs) : Prop :=
  ∀ (pins : List (Addr × Obj)) (s : Shared) (σ : St) (H : Hp) (vs : List V) (us : List Value) (Q : St → Hp → Prop), Inv X pins σ H s → Vals vs us → t vs σ H Q →
    wpAny (model X.prog X.w) X.A (assignInOrder ((assignEach ts X.env).map (·.2)) us) (fun _ s' => ∃ σ' H', Inv X pins σ' H' s' ∧ Q σ' H') X.xe s
noncomputable abbrev TSet := V → V → V → Hp → (Hp → Prop) → Prop
noncomputable def PSet (X : Cx) (t : TSet) : Prop :=
  ∀ (pins : List (Addr × Obj)) (s : Shared) (σ : St) (H : Hp) (o i v : V) (ov iv u : Value) (Q : Hp → Prop), Inv X pins σ H s → RelV o ov → RelV i iv → RelV v u → t o i v H Q →
    wpAny (model X.prog X.w) X.A (setItem ov iv u) (fun _ s' => ∃ H', Inv X pins σ H' s' ∧ Q H') X.xe s
section
variable {X : Cx} {pos : Pos}
noncomputable def gName (i : Nat) : TG := fun v σ H Q => Q (σ.set i (some v)) H
theorem pg_name {i : Nat} {x : Str} (hN : X.N.Nodup) (hi : X.N[i]? = some x) (hx : Loc X.env.scope x) (hf : X.fn x = true ∨ X.env.scope.names.lookup x = some .local := by with_unfolding_all (first | exact .inl rfl | exact .inr rfl | assumption)) : PG X (.Name x pos) (gName i) := by
  intro pins s σ H v u Q I r h
  exact wpAny_assign_Name (store_ok I hN hi hx r (fun s' I' => ⟨_, H, I', h⟩) hf)
noncomputable def gNil : TGs := fun vs σ H Q => vs = [] ∧ Q σ H
noncomputable def gCons (t : TG) (u : TGs) : TGs := fun vs σ H Q => ∃ v r, vs = v :: r ∧ t v σ H fun σ' H' => u r σ' H' Q
theorem pgs_nil : PGs X [] gNil := by
  intro pins s σ H vs us Q I r h
  obtain ⟨e, h⟩ := h
  subst e
  cases r
  exact assignInOrder_nil ⟨σ, H, I, h⟩
theorem pgs_cons {e : Expr} {es : List Expr} {t : TG} {u : TGs} (h1 : PG X e t) (h2 : PGs X es u)
    (hs : (assignEach (e :: es) X.env).map (·.2) = assign e X.env :: (assignEach es X.env).map (·.2) := by with_unfolding_all rfl) : PGs X (e :: es) (gCons t u) := by
  intro pins s σ H vs us Q I r h
  obtain ⟨v, vr, e1, h⟩ := h
  subst e1
  cases r with
  | cons r rr =>
    rw [hs]
    refine assignInOrder_cons (thn (h1 pins s σ H _ _ _ I r h) fun _ s1 ⟨σ1, H1, I1, q1⟩ => ?_)
    exact h2 pins s1 σ1 H1 _ _ Q I1 rr q1
noncomputable def gTup (K : PySem.W.Frag) (n : Nat) (t : TGs) : TG := fun v σ H Q => ∃ a xs, v = .ref a ∧ SqT K H a xs ∧ xs.length = n ∧ t xs σ H Q
theorem pg_tup {es : List Expr} {k : Nat} {t : TGs} {n : Nat} (hc : X.calm = true) (h : PGs X es t)
    (hn : (assignEach es X.env).length = n := by with_unfolding_all rfl) (hst : (assignEach es X.env).findIdx? (·.1) = none := by with_unfolding_all rfl) : PG X (.Tuple es k pos) (gTup X.K n t) := by
  intro pins s σ H v u Q I r hw
  obtain ⟨a, xs, e1, hq, hl, hw⟩ := hw
  subst e1
  cases r
  obtain ⟨its, rv, ht, hz⟩ := I.tuple hq
  refine assign_Tuple_tuple (I.ok.hd hc) ht (by simp [hn, ← hl, rv.length]) hst fun h' hx => ?_
  have I1 : Inv X pins σ H { s with heap := h' } := I.kept (t' := s.toks) fun b o e => hx b o (Nat.ne_of_lt (Heap.lt_size e)) e
  exact h pins _ σ H xs _ Q I1 (by simpa using rv) hw
noncomputable def gSub (to ti : TE) (t : TSet) : TG := fun v σ H Q => to σ H fun o H1 => ti σ H1 fun i H2 => t o i v H2 fun H3 => Q σ H3
theorem pg_sub {o i : Expr} {to ti : TE} {t : TSet} (ho : PE X o to) (hi : PE X i ti) (hs : PSet X t)
    (ha : ∀ v, assign (.Subscript o i pos) X.env v = (do
      let ov ← holding [v] (eval o X.env)
      let iv ← holding [v, ov] (eval i X.env)
      standAt pos
      holding [v, ov, iv] (setItem ov iv v)
      release [v, ov, iv] []) := by intro _; with_unfolding_all rfl) : PG X (.Subscript o i pos) (gSub to ti t) := by
  intro pins s σ H v u Q I r h
  rw [ha]
  refine wpAny_bind (wpAny_holding (thn (ho pins s σ H _ I h) fun ov s1 ⟨x, H1, I1, r1, q1⟩ => ?_))
  refine wpAny_bind (wpAny_holding (thn (hi pins s1 σ H1 _ I1 q1) fun iv s2 ⟨y, H2, I2, r2, q2⟩ => ?_))
  refine wpAny_bind (wpAny_standAt (wpAny_bind (wpAny_holding (thn (hs pins s2 σ H2 x y v ov iv u _ I2 r1 r2 r q2) fun _ s3 ⟨H3, I3, q3⟩ => ?_))))
  exact wpAny_release ⟨σ, H3, I3, q3⟩
noncomputable def tAsg (te : TE) (g : TG) : TS := fun D σ H => te σ H fun x H1 => g x σ H1 D.nx
theorem ps_asg {tg e : Expr} {te : TE} {g : TG} (he : PE X e te) (hg : PG X tg g) (hs : swapsWithSole [tg] e pos.line X.env = pure false := by with_unfolding_all rfl) (hw : swappedStores [tg] e X.env = pure none := by with_unfolding_all rfl)
    (h1 : (assignEach [tg] X.env).map (·.2) = [assign tg X.env] := by with_unfolding_all rfl) : PS X (.Assign [tg] e pos) (tAsg te g) := by
  intro pins s σ H D I h
  refine wpAny_Assign_stores (thn (he pins s σ H _ I h) fun v s1 ⟨x, H1, I1, r1, q1⟩ => ?_) hs hw
  rw [h1]
  exact thn (hg pins s1 σ H1 x v _ I1 r1 q1) fun _ s2 q => q
theorem ps_set {i : Nat} {x : Str} {e : Expr} {te : TE} {pos' : Pos} (hN : X.N.Nodup) (hi : X.N[i]? = some x) (hx : Loc X.env.scope x) (he : PE X e te) (hs : swapsWith e (some (.Name x pos')) pos.line X.env = pure false := by with_unfolding_all rfl) (hf : X.fn x = true ∨ X.env.scope.names.lookup x = some .local := by with_unfolding_all (first | exact .inl rfl | exact .inr rfl | assumption)) :
    PS X (.Assign [.Name x pos'] e pos) (tAsg te (gName i)) := by
  intro pins s σ H D I h
  refine wpAny_Assign_Name (thn (he pins s σ H _ I h) fun v s1 ⟨y, H1, I1, r1, q1⟩ => ?_) hs
  exact store_ok I1 hN hi hx r1 (fun s2 I2 => ⟨_, H1, I2, q1⟩) hf
end
section
variable {X : Cx} {pos : Pos}
noncomputable def tWhile (c : TT) (tb : TS) : TS := fun D σ H => ∃ W : Nat → St → Hp → Prop, (∃ m, W m σ H) ∧ ∀ m σ H, W m σ H →
  c σ H fun b H1 => if b = true then ∃ N : St → Hp → Prop, (∀ σ' H', N σ' H' → ∃ m', m' < m ∧ W m' σ' H') ∧ tb { D with nx := N, ct := N, bk := D.nx } σ H1 else D.nx σ H1
theorem ps_while {c : Expr} {body : List Stmt} {tc : TT} {tb : TS} (hp : PassesOwn (model X.prog X.w) X.A X.env X.xe) (hc : PT X c tc) (hb : PSs X body tb) : PS X (.While c body [] pos) (tWhile tc tb) := by
  intro pins s σ H D I h
  obtain ⟨W, ⟨m0, w0⟩, turn⟩ := h
  refine wpAny_While (codeAny_whileLoop (fun n s' => ∃ σ' H', Inv X pins σ' H' s' ∧ W n σ' H') ?_ m0 ⟨σ, H, I, w0⟩)
  rintro n s1 ⟨σ1, H1, I1, w1⟩
  refine wpAny_passesOwn hp (thn (hc pins s1 σ1 H1 _ I1 (turn n σ1 H1 w1)) fun b s2 ⟨H2, I2, q2⟩ => ?_)
  cases b with
  | true =>
    obtain ⟨N, hN, q2⟩ := q2
    rw [if_pos rfl]
    refine wpAny_passesOwn hp (thn (hb pins s2 σ1 H2 _ I2 q2) fun f s3 q3 => ?_)
    cases f with
    | next =>
      obtain ⟨σ3, H3, I3, n3⟩ := q3
      obtain ⟨m', hm, w3⟩ := hN σ3 H3 n3
      exact ⟨m', hm, σ3, H3, I3, w3⟩
    | cont =>
      obtain ⟨σ3, H3, I3, n3⟩ := q3
      obtain ⟨m', hm, w3⟩ := hN σ3 H3 n3
      exact ⟨m', hm, σ3, H3, I3, w3⟩
    | brk => exact q3
    | ret v => exact q3
  | false =>
    rw [if_neg Bool.false_ne_true]
    exact wpAny_execs_nil ⟨σ1, H2, I2, q2⟩
end
structure It where
  go : Nat → Hp → Prop
  yld : Nat → Hp → V → Hp → Prop
  stop : Nat → Hp → Prop
noncomputable def FpOk (X : Cx) (pins : List (Addr × Obj)) (H : Hp) (b : Addr) : Prop :=
  H b = none ∧ b ≠ X.env.locals ∧ b ∉ X.fs ∧ (b ∈ X.ex ∨ X.s₀.heap.objs.size ≤ b) ∧ (∀ x c, X.env.cells.lookup x = some c → c ≠ b) ∧ ∀ p ∈ X.pn ++ pins, p.1 ≠ b
theorem Inv.fpOk {X : Cx} {pins : List (Addr × Obj)} {σ : St} {H H' : Hp} {s : Shared} {b : Addr} (I : Inv X pins σ H s) (hb : s.heap.objs.size ≤ b) (hn : H' b = none) : FpOk X pins H' b := by
  refine ⟨hn, Nat.ne_of_gt (Nat.lt_of_lt_of_le I.lt hb), I.nofs hb, .inr (Nat.le_trans I.sz hb), fun x c e z => ?_, fun p hp z => ?_⟩
  · obtain ⟨v, q⟩ := I.cell x c e
    exact absurd (Nat.lt_of_lt_of_le q.lt (by rw [z]; exact hb)) (Nat.lt_irrefl _)
  · exact absurd (Nat.lt_of_lt_of_le (Heap.lt_size (I.pin p hp).1) (by rw [z]; exact hb)) (Nat.lt_irrefl _)
structure Turn (P : Program) (w : World) (K : PySem.W.Frag) (tg : Expr) (J : It) (fp : List Addr) (it : Addr) (tn : Nat → Heap → Prop) : Prop where
  mem : it ∈ fp
  obj : ∀ i h, tn i h → ∀ b ∈ fp, ∃ o, h.get? b = some o ∧ ∀ v, o.data ≠ .cell v
  keep : ∀ i h h', tn i h → (∀ b ∈ fp, ∀ o, h.get? b = some o → h'.get? b = some o) → tn i h'
  item : ∀ (X : Cx), X.prog = P → X.w = w → X.K = K → X.calm = true → ∀ (i : Nat) (pins : List (Addr × Obj)) (s : Shared) (σ : St) (H : Hp) (E : Value → Shared → Prop), Inv X pins σ H s → (∀ b ∈ fp, FpOk X pins H b) → tn i s.heap → J.go i H →
    wpAny (model P w) X.A (pyNext (.ref it)) (fun r s1 => ∃ u, r = some u ∧
      wpAny (model P w) X.A (letOwnedTupleGo tg (.ref it) u) (fun _ s2 => ∃ x H', Inv X pins σ H' s2 ∧ RelV x u ∧ J.yld i H x H' ∧ tn (i + 1) s2.heap ∧ ∀ b ∈ fp, H' b = none) E s1) E s
  done : ∀ (X : Cx), X.prog = P → X.w = w → X.K = K → X.calm = true → ∀ (i : Nat) (pins : List (Addr × Obj)) (s : Shared) (σ : St) (H : Hp) (E : Value → Shared → Prop), Inv X pins σ H s → (∀ b ∈ fp, FpOk X pins H b) → tn i s.heap → J.stop i H →
    wpAny (model P w) X.A (pyNext (.ref it)) (fun r s1 => r = none ∧ Inv X pins σ H s1) E s
  self : ∀ (A : Around) (i : Nat) (s : Shared) (Q : Value → Shared → Prop) (E : Value → Shared → Prop), tn i s.heap → Q (.ref it) s → wpAny (model P w) A (pyIter (.ref it)) Q E s
noncomputable abbrev TI := St → Hp → (It → Hp → Prop) → Prop
noncomputable def PIE (X : Cx) (pins : List (Addr × Obj)) (σ : St) (tg : Expr) (R : It → Hp → Prop) (itv : Value) (s2 : Shared) : Prop :=
  ∃ (it : Addr) (fp : List Addr) (tn : Nat → Heap → Prop) (J : It) (H' : Hp), itv = .ref it ∧ Inv X pins σ H' s2 ∧ Turn X.prog X.w X.K tg J fp it tn ∧ tn 0 s2.heap ∧ (∀ b ∈ fp, FpOk X pins H' b) ∧ R J H'
noncomputable def PI (X : Cx) (tg iter : Expr) (wi : TI) : Prop :=
  ∀ (pins : List (Addr × Obj)) (s : Shared) (σ : St) (H : Hp) (R : It → Hp → Prop), Inv X pins σ H s → wi σ H R →
    wpAny (model X.prog X.w) X.A (eval iter X.env) (fun v s1 => wpAny (model X.prog X.w) X.A (pyIter v) (PIE X pins σ tg R) X.xe s1) X.xe s
theorem go_of {M : Model} {A : Around} {E : Value → Shared → Prop} {s : Shared} {tg : Expr} {it : Addr} {u : Value} {o : Obj} {n : String} {vs : Array Value} {Q : Unit → Shared → Prop} (ho : s.heap.get? it = some o) (hc : o.cls = .type n) (hd : o.data = .fields vs)
    (hn : ["enumerate", "zip", "dict_itemiterator", "dict_reverseitemiterator", "odict_iterator", "itertools.zip_longest", "itertools.pairwise"].contains n = false) (hQ : Q () s) : wpAny M A (letOwnedTupleGo tg (.ref it) u) Q E s := by
  unfold letOwnedTupleGo
  cases tg <;> first
    | exact wpAny_pure hQ
    | (cases u <;> first
        | exact wpAny_pure hQ
        | (refine wpAny_bind (wpAny_load ho ?_)
           rw [hc, hd]
           show wpAny M A (if (["enumerate", "zip", "dict_itemiterator", "dict_reverseitemiterator", "odict_iterator", "itertools.zip_longest", "itertools.pairwise"].contains n && vs[0]? == some (rawInt _)) = true then _ else _) Q E s
           rw [if_neg (by intro h; rw [hn, Bool.false_and] at h; cases h)]
           exact wpAny_pure hQ))
noncomputable def Itl (K : PySem.W.Frag) (a : Addr) : It :=
  ⟨fun i H => ∃ xs x, SqL K H a xs ∧ xs[i]? = some x, fun i H x H' => H' = H ∧ ∀ xs, SqL K H a xs → xs[i]? = some x, fun i H => ∃ xs, SqL K H a xs ∧ xs.length ≤ i⟩
noncomputable def Itt (K : PySem.W.Frag) (a : Addr) : It :=
  ⟨fun i H => ∃ xs x, SqT K H a xs ∧ xs[i]? = some x, fun i H x H' => H' = H ∧ ∀ xs, SqT K H a xs → xs[i]? = some x, fun i H => ∃ xs, SqT K H a xs ∧ xs.length ≤ i⟩
noncomputable def Itr (lo : Int) (n : Nat) : It := ⟨fun i _ => i < n, fun i H x H' => H' = H ∧ x = .int (lo + i), fun i _ => n ≤ i⟩
theorem turn_list {P : Program} {w : World} {K : PySem.W.Frag} {tg : Expr} (a it : Addr) : Turn P w K tg (Itl K a) [it] it (fun i h => h.IsListIter it a i) where
  mem := by simp
  obj := fun i h st b hb => by
    have e : b = it := by simpa using hb
    subst e
    obtain ⟨o, e, c, d⟩ := st
    exact ⟨o, e, fun v z => by rw [d] at z; cases z⟩
  keep := fun i h h' st k => st.at fun o e => k it (by simp) o e
  item := by
    intro X hP hw hK hc i pins s σ H E I hf st hg
    subst hP hw hK
    obtain ⟨xs, x, hq, hx⟩ := hg
    obtain ⟨its, rv, p, hz⟩ := I.list hq
    obtain ⟨u, hu, ru⟩ := rv.get hx
    obtain ⟨f0, f1, f2, f3, f4, f5⟩ := hf it (by simp)
    refine wpAny_pyNext_list_item st p.isList (x := u) (by simpa using hu) fun h' st' sb => ?_
    have I1 : Inv X pins σ H { s with heap := h' } := I.turned (t' := s.toks) (fun b o hb e => (sb.2 b hb).trans e) f0 f1 f3 f4 f5
    obtain ⟨o, e, c, d⟩ := id st'
    exact ⟨u, rfl, go_of (s := { s with heap := h' }) e c d (by decide) ⟨x, H, I1, ru, ⟨rfl, fun ys hy => by rw [I.list_inj hy hq]; exact hx⟩, st', fun b hb => (hf b hb).1⟩⟩
  done := by
    intro X hP hw hK hc i pins s σ H E I hf st hg
    subst hP hw hK
    obtain ⟨xs, hq, hx⟩ := hg
    obtain ⟨its, rv, p, hz⟩ := I.list hq
    obtain ⟨f0, f1, f2, f3, f4, f5⟩ := hf it (by simp)
    have hl := rv.length
    exact wpAny_pyNext_list_end (I.ok.hd hc) st p.isList (by simp; omega) fun h' eb => ⟨rfl, I.turned (t' := s.toks) (fun b o hb e => eb b o hb e) f0 f1 f3 f4 f5⟩
  self := fun _ _ _ _ _ st h => wpAny_pyIter_listiter st h
theorem turn_tuple {P : Program} {w : World} {K : PySem.W.Frag} {tg : Expr} (a it : Addr) : Turn P w K tg (Itt K a) [it] it (fun i h => h.IsTupleIter it a i) where
  mem := by simp
  obj := fun i h st b hb => by
    have e : b = it := by simpa using hb
    subst e
    obtain ⟨o, e, c, d⟩ := st
    exact ⟨o, e, fun v z => by rw [d] at z; cases z⟩
  keep := fun i h h' st k => st.at fun o e => k it (by simp) o e
  item := by
    intro X hP hw hK hc i pins s σ H E I hf st hg
    subst hP hw hK
    obtain ⟨xs, x, hq, hx⟩ := hg
    obtain ⟨its, rv, p, hz⟩ := I.tuple hq
    obtain ⟨u, hu, ru⟩ := rv.get hx
    obtain ⟨f0, f1, f2, f3, f4, f5⟩ := hf it (by simp)
    refine wpAny_pyNext_tuple_item st (show s.heap.IsTuple a its.toArray from p) (x := u) (by simpa using hu) fun h' st' sb => ?_
    have I1 : Inv X pins σ H { s with heap := h' } := I.turned (t' := s.toks) (fun b o hb e => (sb.2 b hb).trans e) f0 f1 f3 f4 f5
    obtain ⟨o, e, c, d⟩ := id st'
    exact ⟨u, rfl, go_of (s := { s with heap := h' }) e c d (by decide) ⟨x, H, I1, ru, ⟨rfl, fun ys hy => by rw [I.tuple_inj hy hq]; exact hx⟩, st', fun b hb => (hf b hb).1⟩⟩
  done := by
    intro X hP hw hK hc i pins s σ H E I hf st hg
    subst hP hw hK
    obtain ⟨xs, hq, hx⟩ := hg
    obtain ⟨its, rv, p, hz⟩ := I.tuple hq
    obtain ⟨f0, f1, f2, f3, f4, f5⟩ := hf it (by simp)
    have hl := rv.length
    exact wpAny_pyNext_tuple_end (I.ok.hd hc) st (show s.heap.IsTuple a its.toArray from p) (by simp; omega) fun h' eb => ⟨rfl, I.turned (t' := s.toks) (fun b o hb e => eb b o hb e) f0 f1 f3 f4 f5⟩
  self := fun _ _ _ _ _ st h => wpAny_pyIter_tupleiter st h
theorem turn_range {P : Program} {w : World} {K : PySem.W.Frag} {tg : Expr} (it : Addr) (lo : Int) (n : Nat) : Turn P w K tg (Itr lo n) [it] it (fun i h => IsRangeIter h it (lo + (i : Nat) * 1) ((n : Int) - (i : Nat)) 1) where
  mem := by simp
  obj := fun i h st b hb => by
    have e : b = it := by simpa using hb
    subst e
    exact ⟨_, st, fun v z => by
      have z' : Data.fields _ = Data.cell v := z
      cases z'⟩
  keep := fun i h h' st k => k it (by simp) _ st
  item := by
    intro X hP hw hK hc i pins s σ H E I hf st hg
    subst hP hw hK
    obtain ⟨f0, f1, f2, f3, f4, f5⟩ := hf it (by simp)
    have W := Walks.range (prog := X.prog) (w := X.w) (I.ok.hd hc) it lo 1 n
    refine W.item i s _ _ hg st fun v h' tk hv st' kk => ?_
    obtain ⟨t, rfl⟩ := hv
    have I1 : Inv X pins σ H { s with heap := h', toks := tk } := I.turned (fun b o hb e => kk b o (by simpa using hb) e) f0 f1 f3 f4 f5
    refine ⟨_, rfl, go_of (s := { s with heap := h', toks := tk }) (n := "range_iterator") st' rfl rfl (by decide) ⟨.int (lo + i), H, I1, ⟨t, ?_⟩, ⟨rfl, rfl⟩, st', fun b hb => (hf b hb).1⟩⟩
    rw [Int.mul_one]
  done := by
    intro X hP hw hK hc i pins s σ H E I hf st hg
    subst hP hw hK
    obtain ⟨f0, f1, f2, f3, f4, f5⟩ := hf it (by simp)
    exact wpAny_pyNext_range_end (I.ok.hd hc) st (by have : n ≤ i := hg; omega) fun h' eb => ⟨rfl, I.turned (t' := s.toks) (fun b o hb e => eb b o hb e) f0 f1 f3 f4 f5⟩
  self := fun _ _ _ _ _ st h => wpAny_pyIter_rangeiter st h
end L2
namespace L2
open PySem PySem.Spec PyProof.Rows
section
variable {X : Cx} {tg : Expr}
theorem range_it {pins : List (Addr × Obj)} {σ : St} {H : Hp} {s : Shared} {R : It → Hp → Prop} {E : Value → Shared → Prop} {lo hi : Int} {t u v : Tok} {tk : Nat} (I : Inv X pins σ H s) (h1 : -(2 ^ 62) ≤ lo) (h2 : lo < 2 ^ 62) (h3 : -(2 ^ 62) ≤ hi) (h4 : hi < 2 ^ 62)
    (q : R (Itr lo (hi - lo).toNat) H) : wpAny (model X.prog X.w) X.A (pyIter (.ref s.heap.objs.size)) (PIE X pins σ tg R) E { s with heap := s.heap.push { cls := .type "range", data := .fields #[.int lo t, .int hi u, .int 1 v] }, toks := tk } := by
  refine wpAny_pyIter_range (IsRange.new ..) (small_one h1 h2 h3 h4) ?_
  have I1 : Inv X pins σ H { s with heap := s.heap.push { cls := .type "range", data := .fields #[.int lo t, .int hi u, .int 1 v] }, toks := tk } := I.kept fun b o e => Heap.get?_push_of_some _ e
  refine ⟨(s.heap.push { cls := .type "range", data := .fields #[.int lo t, .int hi u, .int 1 v] }).objs.size, [(s.heap.push { cls := .type "range", data := .fields #[.int lo t, .int hi u, .int 1 v] }).objs.size], _, _, H, rfl,
    I1.kept (t' := tk) fun b o e => Heap.get?_push_of_some _ e, turn_range _ lo (hi - lo).toNat, ?_, fun b hb => ?_, q⟩
  · have e1 : lo + ((0 : Nat) : Int) * 1 = lo := by simp
    have e2 : (((hi - lo).toNat : Nat) : Int) - ((0 : Nat) : Int) = Builtin.Range.rangeSize lo hi 1 := by rw [rangeSize_one]; split <;> omega
    show IsRangeIter _ _ (lo + ((0 : Nat) : Int) * 1) ((((hi - lo).toNat : Nat) : Int) - ((0 : Nat) : Int)) 1
    rw [e1, e2]
    exact Heap.get?_push_size _ rfl
  · have e : b = (s.heap.push { cls := .type "range", data := .fields #[.int lo t, .int hi u, .int 1 v] }).objs.size := by simpa using hb
    subst e
    exact I1.fpOk (Nat.le_refl _) (I1.hok.fresh (Nat.le_refl _))
noncomputable def iRng1 (ta : TA) : TI := fun σ H R => ta σ H fun vs H1 => ∃ j : Int, vs = [.int j] ∧ -(2 ^ 62) ≤ j ∧ j < 2 ^ 62 ∧ R (Itr 0 j.toNat) H1
noncomputable def iRng2 (ta : TA) : TI := fun σ H R => ta σ H fun vs H1 => ∃ i j : Int, vs = [.int i, .int j] ∧ (-(2 ^ 62) ≤ i ∧ i < 2 ^ 62 ∧ -(2 ^ 62) ≤ j ∧ j < 2 ^ 62) ∧ R (Itr i (j - i).toNat) H1
theorem pi_range1 {a : Expr} {ta : TA} {p pos : Pos} (hg : Gl X "range") (hm : X.mg "range" = none) (ha : PA X [a] ta) (hs : starEach [a] X.env = [(false, eval a X.env)] := by with_unfolding_all rfl) : PI X tg (.Call (.Name "range" p) [a] [] pos) (iRng1 ta) := by
  intro pins s σ H R I h
  refine Call_ (ld_blt I hg hm boot_range (PyProof.Rows.callWith_type1 (thn (ha pos pins s σ H _ I h) fun us s1 ⟨vs, H1, I1, r1, q1⟩ => ?_) hs rfl))
  obtain ⟨j, e, q1, q2, q⟩ := q1
  subst e
  cases r1 with
  | cons r rr =>
    cases rr
    obtain ⟨t, rfl⟩ := r
    exact call_range_1 (range_it I1 (by omega) (by omega) q1 q2 (by simpa using q))
theorem pi_range2 {a b : Expr} {ta : TA} {p pos : Pos} (hg : Gl X "range") (hm : X.mg "range" = none) (ha : PA X [a, b] ta) (hs : starEach [a, b] X.env = [(false, eval a X.env), (false, eval b X.env)] := by with_unfolding_all rfl) (hs2 : starEach [b] X.env = [(false, eval b X.env)] := by with_unfolding_all rfl) :
    PI X tg (.Call (.Name "range" p) [a, b] [] pos) (iRng2 ta) := by
  intro pins s σ H R I h
  refine Call_ (ld_blt I hg hm boot_range (PyProof.Rows.callWith_type1 (thn (ha pos pins s σ H _ I h) fun us s1 ⟨vs, H1, I1, r1, q1⟩ => ?_) (by rw [hs, hs2]) (by rw [hs2]; rfl)))
  obtain ⟨i, j, e, ⟨q1, q2, q3, q4⟩, q⟩ := q1
  subst e
  cases r1 with
  | cons r rr =>
    cases rr with
    | cons r' rr =>
      cases rr
      obtain ⟨t, rfl⟩ := r
      obtain ⟨t', rfl⟩ := r'
      exact call_range_2 (range_it I1 q1 q2 q3 q4 q)
noncomputable def tFor (wi : TI) (g : TG) (tb : TS) : TS := fun D σ H => wi σ H fun J H1 => ∃ W : Nat → Nat → St → Hp → Prop, (∃ m, W 0 m σ H1) ∧ ∀ i m σ H, W i m σ H →
  (J.stop i H ∧ D.nx σ H) ∨ (J.go i H ∧ ∃ N : St → Hp → Prop, (∀ σ' H', N σ' H' → ∃ m', m' < m ∧ W (i + 1) m' σ' H') ∧ ∀ x H', J.yld i H x H' → g x σ H' fun σ2 H2 => tb { D with nx := N, ct := N, bk := D.nx } σ2 H2)
noncomputable def pinsAt (fp : List Addr) (h : Heap) : List (Addr × Obj) := fp.filterMap fun b => (h.get? b).map fun o => (b, o)
theorem mem_pinsAt {fp : List Addr} {h : Heap} {b : Addr} {o : Obj} (hb : b ∈ fp) (e : h.get? b = some o) : (b, o) ∈ pinsAt fp h := List.mem_filterMap.mpr ⟨b, hb, by rw [e]; rfl⟩
theorem of_pinsAt {fp : List Addr} {h : Heap} {p : Addr × Obj} (hp : p ∈ pinsAt fp h) : p.1 ∈ fp ∧ h.get? p.1 = some p.2 := by
  obtain ⟨b, hb, e⟩ := List.mem_filterMap.mp hp
  cases q : h.get? b with
  | none => rw [q] at e; cases e
  | some o =>
    rw [q] at e
    have e' : (b, o) = p := Option.some.inj e
    subst e'
    exact ⟨hb, q⟩
theorem Inv.pinned {pins : List (Addr × Obj)} {σ : St} {H : Hp} {s : Shared} {fp : List Addr} (I : Inv X pins σ H s) (hf : ∀ b ∈ fp, FpOk X pins H b) (ho : ∀ b ∈ fp, ∃ o, s.heap.get? b = some o ∧ ∀ v, o.data ≠ .cell v) : Inv X (pins ++ pinsAt fp s.heap) σ H s :=
  I.pins_of fun p hp => (List.mem_append.mp hp).elim (fun z => I.pin p (List.mem_append_right _ z)) fun z => by
    obtain ⟨hb, e⟩ := of_pinsAt z
    obtain ⟨f0, f1, f2, _⟩ := hf p.1 hb
    obtain ⟨o, e', d⟩ := ho p.1 hb
    rw [e] at e'; cases e'
    exact ⟨e, f0, f1, f2, d⟩
theorem Inv.unpinned {pins pl : List (Addr × Obj)} {σ : St} {H : Hp} {s : Shared} (I : Inv X (pins ++ pl) σ H s) : Inv X pins σ H s := I.pins_of fun p hp => I.pin p (List.mem_append_right _ (List.mem_append_left _ hp))
theorem ps_for {iter : Expr} {body : List Stmt} {wi : TI} {g : TG} {tb : TS} {pos : Pos} (hp : PassesOwn (model X.prog X.w) X.A X.env X.xe) (hc : X.calm = true) (hi : PI X tg iter wi) (hg : PG X tg g) (hb : PSs X body tb)
    (hs : ∀ x, foldedSetIterable iter X.env x = pure x := by intro _; with_unfolding_all rfl) : PS X (.For tg iter body [] pos) (tFor wi g tb) := by
  intro pins s σ H D I h
  refine wpAny_For (thn (hi pins s σ H _ I h) fun v s1 h1 => thn h1 fun itv s2 h2 => ?_) hs
  obtain ⟨it, fp, tn, J, H2, e, I2, T, st2, f2, W, ⟨m0, w0⟩, turn⟩ := h2
  subst e
  -- what stays true of the iterator's objects through the loop
  have stat : ∀ {H' : Hp}, (∀ b ∈ fp, H' b = none) → ∀ b ∈ fp, FpOk X pins H' b := fun hn b hb => ⟨hn b hb, (f2 b hb).2⟩
  refine codeAny_forLoop_any (fun n s' => ∃ i σ' H', Inv X pins σ' H' s' ∧ tn i s'.heap ∧ (∀ b ∈ fp, H' b = none) ∧ W i n σ' H') ?_ m0 ⟨0, σ, H2, I2, st2, fun b hb => (f2 b hb).1, w0⟩
  rintro n s3 ⟨i, σ3, H3, I3, st3, fr3, w3⟩
  rcases turn i n σ3 H3 w3 with ⟨stop, qn⟩ | ⟨go, N, hN, step⟩
  · refine wpAny_passesOwn hp (thn (T.done X rfl rfl rfl hc i pins s3 σ3 H3 X.xe I3 (stat fr3) st3 stop) fun r s4 ⟨hr, I4⟩ => ?_)
    subst hr
    exact wpAny_execs_nil ⟨σ3, H3, I4, qn⟩
  · refine wpAny_passesOwn hp (thn (T.item X rfl rfl rfl hc i pins s3 σ3 H3 X.xe I3 (stat fr3) st3 go) fun r s4 ⟨u, hr, h4⟩ => ?_)
    subst hr
    refine wpAny_passesOwn hp (thn h4 fun _ s5 ⟨x, H5, I5, r5, y5, st5, fr5⟩ => ?_)
    have I5' := I5.pinned (stat fr5) (T.obj _ _ st5)
    refine wpAny_passesOwn hp (thn (hg _ s5 σ3 H5 x u _ I5' r5 (step x H5 y5)) fun _ s6 ⟨σ6, H6, I6, q6⟩ => ?_)
    refine wpAny_passesOwn hp (thn (hb _ s6 σ6 H6 _ I6 q6) fun f s7 q7 => ?_)
    have again : ∀ {σ7 : St} {H7 : Hp}, Inv X (pins ++ pinsAt fp s5.heap) σ7 H7 s7 → N σ7 H7 → ∃ m, m < n ∧ ∃ i σ' H', Inv X pins σ' H' s7 ∧ tn i s7.heap ∧ (∀ b ∈ fp, H' b = none) ∧ W i m σ' H' := fun {σ7 H7} I7 n7 => by
      obtain ⟨m', hm, w7⟩ := hN σ7 H7 n7
      refine ⟨m', hm, i + 1, σ7, H7, I7.unpinned, T.keep _ _ _ st5 fun b hb o e => (I7.pin (b, o) (List.mem_append_right _ (List.mem_append_right _ (mem_pinsAt hb e)))).1, fun b hb => ?_, w7⟩
      obtain ⟨o, e, d⟩ := T.obj _ _ st5 b hb
      exact (I7.pin (b, o) (List.mem_append_right _ (List.mem_append_right _ (mem_pinsAt hb e)))).2.1
    cases f with
    | next => obtain ⟨σ7, H7, I7, n7⟩ := q7; exact again I7 n7
    | cont => obtain ⟨σ7, H7, I7, n7⟩ := q7; exact again I7 n7
    | brk => obtain ⟨σ7, H7, I7, q7⟩ := q7; exact ⟨σ7, H7, I7.unpinned, q7⟩
    | ret v => obtain ⟨x7, σ7, H7, I7, r7, q7⟩ := q7; exact ⟨x7, σ7, H7, I7.unpinned, r7, q7⟩
end
end L2
namespace L2
open PySem PySem.Spec PyProof.Rows
noncomputable abbrev R2 := V → V → Hp → VK → Prop
noncomputable def OpR (X : Cx) (f : Value → Value → Sem Value) (r : R2) : Prop :=
  ∀ (pins : List (Addr × Obj)) (s : Shared) (σ : St) (H : Hp) (x y : V) (v u : Value) (Q : VK), Inv X pins σ H s → RelV x v → RelV y u → r x y H Q →
    wpAny (model X.prog X.w) X.A (f v u) (EP X pins σ Q) X.xe s
noncomputable def UnR (X : Cx) (f : Value → Sem Value) (r : V → Hp → VK → Prop) : Prop :=
  ∀ (pins : List (Addr × Obj)) (s : Shared) (σ : St) (H : Hp) (x : V) (v : Value) (Q : VK), Inv X pins σ H s → RelV x v → r x H Q →
    wpAny (model X.prog X.w) X.A (f v) (EP X pins σ Q) X.xe s
noncomputable def CallR (X : Cx) (f : Value) (r : List V → Hp → VK → Prop) : Prop :=
  ∀ (pins : List (Addr × Obj)) (s : Shared) (σ : St) (H : Hp) (xs : List V) (us : List Value) (Q : VK), Inv X pins σ H s → Vals xs us → r xs H Q →
    wpAny (model X.prog X.w) X.A (call f us) (EP X pins σ Q) X.xe s
noncomputable def tOp (r : R2) (ta tb : TE) : TE := fun σ H Q => ta σ H fun x H1 => tb σ H1 fun y H2 => r x y H2 Q
noncomputable def tUn (r : V → Hp → VK → Prop) (ta : TE) : TE := fun σ H Q => ta σ H fun x H1 => r x H1 Q
noncomputable def rI (C : Int → Int → Prop) (g : Int → Int → V) : R2 := fun x y H Q => ∃ i j, x = .int i ∧ y = .int j ∧ C i j ∧ Q (g i j) H
noncomputable def rI0 (g : Int → Int → V) : R2 := fun x y H Q => ∃ i j, x = .int i ∧ y = .int j ∧ Q (g i j) H
noncomputable def rU (g : Int → V) : V → Hp → VK → Prop := fun x H Q => ∃ i, x = .int i ∧ Q (g i) H
section
variable {X : Cx} {a b c : Expr} {ta tb tc : TE} {pos : Pos}
theorem binT (ha : PE X a ta) (hb : PE X b tb) {pins : List (Addr × Obj)} {s : Shared} {σ : St} {H : Hp} {R : V → V → Hp → Prop} (I : Inv X pins σ H s)
    (h : ta σ H fun x H1 => tb σ H1 fun y H2 => R x y H2) {Q : Value → Shared → Prop} {f : Value → Value → Sem Value}
    (hf : ∀ v u s2 x y H2, Inv X pins σ H2 s2 → RelV x v → RelV y u → R x y H2 → wpAny (model X.prog X.w) X.A (f v u) Q X.xe s2) :
    wpAny (model X.prog X.w) X.A (eval a X.env) (fun v s₁ => wpAny (model X.prog X.w) X.A (eval b X.env) (fun u s₂ => wpAny (model X.prog X.w) X.A (f v u) Q X.xe s₂) X.xe s₁) X.xe s := by
  refine thn (ha pins s σ H _ I h) fun v s1 ⟨x, H1, I1, r1, q1⟩ => ?_
  refine thn (hb pins s1 σ H1 _ I1 q1) fun u s2 ⟨y, H2, I2, r2, q2⟩ => ?_
  exact hf v u s2 x y H2 I2 r1 r2 q2
theorem pe_op {op : Operator} {r : R2} (ho : OpR X (binaryOp op) r) (ha : PE X a ta) (hb : PE X b tb) : PE X (.BinOp a op b pos) (tOp r ta tb) := by
  intro pins s σ H Q I h
  exact wpAny_BinOp (binT ha hb I h fun v u s2 x y H2 I2 rx ry q => ho pins s2 σ H2 x y v u Q I2 rx ry q)
theorem pe_un {op : UnaryOp} {r : V → Hp → VK → Prop} (ho : UnR X (unaryOp op) r) (ha : PE X a ta) : PE X (.UnaryOp op a pos) (tUn r ta) := by
  intro pins s σ H Q I h
  exact UnaryOp_ (thn (ha pins s σ H _ I h) fun v s1 ⟨x, H1, I1, r1, q1⟩ => ho pins s1 σ H1 x v Q I1 r1 q1)
theorem opI {f : Value → Value → Sem Value} {C : Int → Int → Prop} {g : Int → Int → Int}
    (rule : ∀ (i j : Int) (t u : Tok) (s : Shared) (Q : Value → Shared → Prop) (E : Value → Shared → Prop), C i j → Q (.int (g i j) s.toks) { s with toks := s.toks + 1 } → wpAny (model X.prog X.w) X.A (f (.int i t) (.int j u)) Q E s) :
    OpR X f (rI C fun i j => .int (g i j)) := by
  intro pins s σ H x y v u Q I rx ry h
  obtain ⟨i, j, rfl, rfl, hc, q⟩ := h
  obtain ⟨t, rfl⟩ := rx
  obtain ⟨t', rfl⟩ := ry
  exact rule i j t t' s _ _ hc ⟨.int (g i j), H, I.tok _, ⟨_, rfl⟩, q⟩
theorem opI0 {f : Value → Value → Sem Value} {g : Int → Int → Int}
    (rule : ∀ (i j : Int) (t u : Tok) (s : Shared) (Q : Value → Shared → Prop) (E : Value → Shared → Prop), Q (.int (g i j) s.toks) { s with toks := s.toks + 1 } → wpAny (model X.prog X.w) X.A (f (.int i t) (.int j u)) Q E s) :
    OpR X f (rI0 fun i j => .int (g i j)) := by
  intro pins s σ H x y v u Q I rx ry h
  obtain ⟨i, j, rfl, rfl, q⟩ := h
  obtain ⟨t, rfl⟩ := rx
  obtain ⟨t', rfl⟩ := ry
  exact rule i j t t' s _ _ ⟨.int (g i j), H, I.tok _, ⟨_, rfl⟩, q⟩
theorem opB0 {f : Value → Value → Sem Value} {g : Int → Int → Bool}
    (rule : ∀ (i j : Int) (t u : Tok) (s : Shared) (Q : Value → Shared → Prop) (E : Value → Shared → Prop), Q (.bool (g i j)) s → wpAny (model X.prog X.w) X.A (f (.int i t) (.int j u)) Q E s) :
    OpR X f (rI0 fun i j => .bl (g i j)) := by
  intro pins s σ H x y v u Q I rx ry h
  obtain ⟨i, j, rfl, rfl, q⟩ := h
  obtain ⟨t, rfl⟩ := rx
  obtain ⟨t', rfl⟩ := ry
  exact rule i j t t' s _ _ ⟨.bl (g i j), H, I, rfl, q⟩
noncomputable def CDiv (i j : Int) : Prop := 0 < j ∧ j < 1073741824
noncomputable def CPow (i j : Int) : Prop := 0 ≤ j ∧ j ≤ 1000000 ∧ i.natAbs < 2 ^ 64
noncomputable def CMul (i j : Int) : Prop := (-(2 ^ 64) < i ∧ i < 2 ^ 64) ∨ (-(2 ^ 64) < j ∧ j < 2 ^ 64)
theorem CMul.ok {i j : Int} (h : CMul i j) : IntMulOk i j := by
  rcases h with ⟨h1, h2⟩ | ⟨h1, h2⟩
  · exact .of_left (intBits_le_64 h1 h2)
  · exact .of_right (intBits_le_64 h1 h2)
theorem op_add : OpR X (binaryOp .Add) (rI0 fun i j => .int (i + j)) := opI0 fun _ _ _ _ _ _ _ q => add_int q
theorem op_sub : OpR X (binaryOp .Sub) (rI0 fun i j => .int (i - j)) := opI0 fun _ _ _ _ _ _ _ q => sub_int q
theorem op_mul : OpR X (binaryOp .Mult) (rI CMul fun i j => .int (i * j)) := opI fun _ _ _ _ _ _ _ hc q => mul_int q hc.ok
theorem op_fdiv : OpR X (binaryOp .FloorDiv) (rI CDiv fun i j => .int (i / j)) := opI fun i j _ _ _ _ _ hc q => by
  have h1 : (0 : Int) < j := hc.1
  have h2 : j < 1073741824 := hc.2
  exact floordiv_int (by omega) (by rw [Int.fdiv_eq_ediv_of_nonneg i (by omega)]; exact q) (.inl (PyProof.noPylong_small (by omega)))
theorem op_mod : OpR X (binaryOp .Mod) (rI (fun _ j => 0 < j) fun i j => .int (i % j)) := opI fun i j _ _ _ _ _ hc q => by
  have h1 : (0 : Int) < j := hc
  exact mod_int' (by omega) (by rw [Int.fmod_eq_emod_of_nonneg i (by omega)]; exact q)
theorem op_pow : OpR X (binaryOp .Pow) (rI CPow fun i j => .int (i ^ j.toNat)) := opI fun _ _ _ _ _ _ _ hc q => pow_int_small hc.1 hc.2.1 hc.2.2 q
theorem unI {f : Value → Sem Value} {g : Int → Int}
    (rule : ∀ (i : Int) (t : Tok) (s : Shared) (Q : Value → Shared → Prop) (E : Value → Shared → Prop), Q (.int (g i) s.toks) { s with toks := s.toks + 1 } → wpAny (model X.prog X.w) X.A (f (.int i t)) Q E s) :
    UnR X f (rU fun i => .int (g i)) := by
  intro pins s σ H x v Q I rx h
  obtain ⟨i, rfl, q⟩ := h
  obtain ⟨t, rfl⟩ := rx
  exact rule i t s _ _ ⟨.int (g i), H, I.tok _, ⟨_, rfl⟩, q⟩
theorem un_neg : UnR X (unaryOp .USub) (rU fun i => .int (-i)) := unI fun _ _ _ _ _ q => neg_int q
end
noncomputable def scal : V → V → Bool
  | .non, .non => true | .non, .int _ => true | .int _, .non => true | .non, .bl _ => true | .bl _, .non => true | .non, .str _ => true | .str _, .non => true
  | .int _, .int _ => true | .bl _, .bl _ => true | .str _, .str _ => true | .byt _, .byt _ => true
  | .int _, .str _ => true | .str _, .int _ => true | .bl _, .str _ => true | .str _, .bl _ => true
  | _, _ => false
noncomputable def rEq : R2 := fun x y H Q => scal x y = true ∧ Q (.bl (decide (x = y))) H
noncomputable def rNe : R2 := fun x y H Q => scal x y = true ∧ Q (.bl (!decide (x = y))) H
theorem dec_int {i j : Int} : decide (V.int i = V.int j) = (i == j) := by
  rw [Bool.eq_iff_iff]
  simp
theorem dec_bl {i j : Bool} : decide (V.bl i = V.bl j) = (i == j) := by
  rw [Bool.eq_iff_iff]
  simp
theorem dec_str {i j : Str} : decide (V.str i = V.str j) = (i == j) := by
  rw [Bool.eq_iff_iff]
  simp
theorem dec_byt {i j : Array UInt8} : decide (V.byt i = V.byt j) = (i.toList == j.toList) := by
  rw [Bool.eq_iff_iff]
  cases i
  cases j
  simp
section
variable {X : Cx} {a b c : Expr} {ta tb tc : TE} {pos : Pos}
theorem fin_bl {pins : List (Addr × Obj)} {σ : St} {H : Hp} {s : Shared} {Q : VK} {k k' : Bool} (I : Inv X pins σ H s) (q : Q (.bl k) H) (e : k = k') : EP X pins σ Q (.bool k') s := by
  subst e
  exact ⟨.bl k, H, I, rfl, q⟩
theorem op_eq : OpR X (compareOp .Eq) rEq := by
  intro pins s σ H x y v u Q I rx ry h
  obtain ⟨hs, q⟩ := h
  cases x with
  | non =>
    cases rx
    cases y with
    | non => cases ry; exact PySem.EqNone.eq_none_none (fin_bl I q (by simp))
    | bl j => cases ry; exact PySem.EqNone.eq_none_bool (fin_bl I q (by simp))
    | int j => obtain ⟨t', rfl⟩ := ry; exact PySem.EqNone.eq_none_int (fin_bl I q (by simp))
    | str j => obtain ⟨t', rfl⟩ := ry; exact PySem.EqNone.eq_none_str (fin_bl I q (by simp))
    | _ => exact absurd (show false = true from hs) Bool.false_ne_true
  | bl i =>
    cases rx
    cases y with
    | non => cases ry; exact PySem.EqNone.eq_bool_none (fin_bl I q (by simp))
    | bl j => cases ry; exact eq_bool (fin_bl I q dec_bl)
    | str j => obtain ⟨t', rfl⟩ := ry; exact PySem.EqMixed.eq_bool_str (fin_bl I q (by simp))
    | _ => exact absurd (show false = true from hs) Bool.false_ne_true
  | int i =>
    obtain ⟨t, rfl⟩ := rx
    cases y with
    | non => cases ry; exact PySem.EqNone.eq_int_none (fin_bl I q (by simp))
    | int j => obtain ⟨t', rfl⟩ := ry; exact eq_int (fin_bl I q dec_int)
    | str j => obtain ⟨t', rfl⟩ := ry; exact PySem.EqMixed.eq_int_str (fin_bl I q (by simp))
    | _ => exact absurd (show false = true from hs) Bool.false_ne_true
  | str i =>
    obtain ⟨t, rfl⟩ := rx
    cases y with
    | non => cases ry; exact PySem.EqNone.eq_str_none (fin_bl I q (by simp))
    | bl j => cases ry; exact PySem.EqMixed.eq_str_bool (fin_bl I q (by simp))
    | int j => obtain ⟨t', rfl⟩ := ry; exact PySem.EqMixed.eq_str_int (fin_bl I q (by simp))
    | str j => obtain ⟨t', rfl⟩ := ry; exact eq_str (fin_bl I q dec_str)
    | _ => exact absurd (show false = true from hs) Bool.false_ne_true
  | byt i =>
    obtain ⟨t, rfl⟩ := rx
    cases y with
    | byt j => obtain ⟨t', rfl⟩ := ry; exact PySem.W.eq_bytes (fin_bl I q dec_byt)
    | _ => exact absurd (show false = true from hs) Bool.false_ne_true
  | _ => cases y <;> exact absurd (show false = true from hs) Bool.false_ne_true
theorem op_ne : OpR X (compareOp .NotEq) rNe := by
  intro pins s σ H x y v u Q I rx ry h
  obtain ⟨hs, q⟩ := h
  cases x with
  | non =>
    cases rx
    cases y with
    | non => cases ry; exact PySem.EqNone.ne_none_none (fin_bl I q (by simp))
    | bl j => cases ry; exact PySem.EqNone.ne_none_bool (fin_bl I q (by simp))
    | int j => obtain ⟨t', rfl⟩ := ry; exact PySem.EqNone.ne_none_int (fin_bl I q (by simp))
    | str j => obtain ⟨t', rfl⟩ := ry; exact PySem.EqNone.ne_none_str (fin_bl I q (by simp))
    | _ => exact absurd (show false = true from hs) Bool.false_ne_true
  | bl i =>
    cases rx
    cases y with
    | non => cases ry; exact PySem.EqNone.ne_bool_none (fin_bl I q (by simp))
    | bl j => cases ry; exact ne_bool (fin_bl I q (congrArg not dec_bl))
    | str j => obtain ⟨t', rfl⟩ := ry; exact PySem.EqMixed.ne_bool_str (fin_bl I q (by simp))
    | _ => exact absurd (show false = true from hs) Bool.false_ne_true
  | int i =>
    obtain ⟨t, rfl⟩ := rx
    cases y with
    | non => cases ry; exact PySem.EqNone.ne_int_none (fin_bl I q (by simp))
    | int j => obtain ⟨t', rfl⟩ := ry; exact ne_int (fin_bl I q (congrArg not dec_int))
    | str j => obtain ⟨t', rfl⟩ := ry; exact PySem.EqMixed.ne_int_str (fin_bl I q (by simp))
    | _ => exact absurd (show false = true from hs) Bool.false_ne_true
  | str i =>
    obtain ⟨t, rfl⟩ := rx
    cases y with
    | non => cases ry; exact PySem.EqNone.ne_str_none (fin_bl I q (by simp))
    | bl j => cases ry; exact PySem.EqMixed.ne_str_bool (fin_bl I q (by simp))
    | int j => obtain ⟨t', rfl⟩ := ry; exact PySem.EqMixed.ne_str_int (fin_bl I q (by simp))
    | str j => obtain ⟨t', rfl⟩ := ry; exact ne_str (fin_bl I q (congrArg not dec_str))
    | _ => exact absurd (show false = true from hs) Bool.false_ne_true
  | byt i =>
    obtain ⟨t, rfl⟩ := rx
    cases y with
    | byt j => obtain ⟨t', rfl⟩ := ry; exact PySem.W.ne_bytes (fin_bl I q (congrArg not dec_byt))
    | _ => exact absurd (show false = true from hs) Bool.false_ne_true
  | _ => cases y <;> exact absurd (show false = true from hs) Bool.false_ne_true
theorem op_lt : OpR X (compareOp .Lt) (rI0 fun i j => .bl (decide (i < j))) := opB0 fun _ _ _ _ _ _ _ q => lt_int q
theorem op_le : OpR X (compareOp .LtE) (rI0 fun i j => .bl (decide (i ≤ j))) := opB0 fun _ _ _ _ _ _ _ q => le_int q
theorem op_gt : OpR X (compareOp .Gt) (rI0 fun i j => .bl (decide (j < i))) := opB0 fun _ _ _ _ _ _ _ q => gt_int q
theorem op_ge : OpR X (compareOp .GtE) (rI0 fun i j => .bl (decide (j ≤ i))) := opB0 fun _ _ _ _ _ _ _ q => ge_int q
theorem op_in_str : OpR X (compareOp .In) (fun x y H Q => ∃ i j, x = .str i ∧ y = .str j ∧ Q (.bl (!(Builtin.Str.occurrences j i 0 j.length 1).isEmpty)) H) := by
  intro pins s σ H x y v u Q I rx ry h
  obtain ⟨i, j, rfl, rfl, q⟩ := h
  obtain ⟨t, rfl⟩ := rx
  obtain ⟨t', rfl⟩ := ry
  exact in_str (fin_bl I q rfl)
theorem OpR.or {f : Value → Value → Sem Value} {r r' : R2} (h : OpR X f r) (h' : OpR X f r') : OpR X f (fun x y H Q => r x y H Q ∨ r' x y H Q) := by
  intro pins s σ H x y v u Q I rx ry q
  rcases q with q | q
  · exact h pins s σ H x y v u Q I rx ry q
  · exact h' pins s σ H x y v u Q I rx ry q
theorem nomark (b : Expr) {op : CmpOp} (h : op ≠ .In := by decide) (h2 : op ≠ .NotIn := by decide) : behindInMarks op b = false := by
  have e1 : (op == CmpOp.In) = false := by cases op <;> first | rfl | exact absurd rfl h
  have e2 : (op == CmpOp.NotIn) = false := by cases op <;> first | rfl | exact absurd rfl h2
  cases b <;> simp [behindInMarks, e1, e2]
theorem pe_cmpR {op : CmpOp} {r : R2} (ho : OpR X (compareOp op) r) (ha : PE X a ta) (hb : PE X b tb) (hm : behindInMarks op b = false) : PE X (.Compare a [op] [b] pos) (tOp r ta tb) := by
  intro pins s σ H Q I h
  exact wpAny_Compare1 (binT ha hb I h fun v u s2 x y H2 I2 rx ry q => ho pins s2 σ H2 x y v u Q I2 rx ry q) hm
noncomputable def tTest (t : TE) : TT := fun σ H Q => t σ H fun x H' => ∃ k, x = .bl k ∧ Q k H'
theorem pt_cmpR {op : CmpOp} {r : R2} (ho : OpR X (compareOp op) r) (ha : PE X a ta) (hb : PE X b tb) (hm : behindInMarks op b = false) : PT X (.Compare a [op] [b] pos) (tTest (tOp r ta tb)) := by
  intro pins s σ H Q I h
  refine wpAny_isTrue_Compare1 (thn (ha pins s σ H _ I h) fun v s1 ⟨x, H1, I1, r1, q1⟩ => thn (hb pins s1 σ H1 _ I1 q1) fun u s2 ⟨y, H2, I2, r2, q2⟩ =>
    thn (ho pins s2 σ H2 x y v u _ I2 r1 r2 q2) fun c s3 ⟨z, H3, I3, r3, k, e, q3⟩ => ?_) hm
  subst e
  cases r3
  exact wpAny_truthy_bool ⟨H3, I3, q3⟩
noncomputable def tChain (r r' : R2) (ta tb tc : TE) : TE := fun σ H Q => ta σ H fun x H1 => tb σ H1 fun y H2 => r x y H2 fun z H3 => ∃ k, z = .bl k ∧
  (if k = true then tc σ H3 fun w' H4 => r' y w' H4 Q else Q (.bl false) H3)
theorem pe_chain {op op' : CmpOp} {r r' : R2} (ho : OpR X (compareOp op) r) (ho' : OpR X (compareOp op') r') (ha : PE X a ta) (hb : PE X b tb) (hc : PE X c tc)
    (hm : lastMarks [op, op'] [b, c] = false := by with_unfolding_all rfl) : PE X (.Compare a [op, op'] [b, c] pos) (tChain r r' ta tb tc) := by
  intro pins s σ H Q I h
  refine Compare_chain (thn (ha pins s σ H _ I h) fun v s1 ⟨x, H1, I1, r1, q1⟩ => chain_link (thn (hb pins s1 σ H1 _ I1 q1) fun u s2 ⟨y, H2, I2, r2, q2⟩ =>
    thn (ho pins s2 σ H2 x y v u _ I2 r1 r2 q2) fun d s3 ⟨z, H3, I3, r3, k, e, q3⟩ => ?_)) hm
  subst e
  cases r3
  refine wpAny_truthy_bool ?_
  cases k with
  | false => exact ite_ff ⟨.bl false, H3, I3, rfl, q3⟩
  | true => exact ite_tt (chain_last (thn (hc pins s3 σ H3 _ I3 q3) fun w' s4 ⟨z', H4, I4, r4, q4⟩ => ho' pins s4 σ H4 y z' u w' Q I4 r2 r4 q4))
theorem line63 : (sizeLine : Nat) < 2 ^ 63 := by rw [sizeLine_eq]; decide
theorem op_add_str : OpR X (binaryOp .Add) (fun x y H Q => ∃ i j, x = .str i ∧ y = .str j ∧ i.length + j.length ≤ sizeLine ∧ Q (.str (i ++ j)) H) := by
  intro pins s σ H x y v u Q I rx ry h
  obtain ⟨i, j, rfl, rfl, hz, q⟩ := h
  obtain ⟨t, rfl⟩ := rx
  obtain ⟨t', rfl⟩ := ry
  exact add_str (fun t' tk => ⟨.str (i ++ j), H, I.tok _, ⟨_, rfl⟩, q⟩) hz
theorem vals1 {x : V} {us : List Value} (r : Vals [x] us) : ∃ u, us = [u] ∧ RelV x u := by
  cases r with
  | cons r1 r2 => cases r2; exact ⟨_, rfl, r1⟩
theorem vals2 {x y : V} {us : List Value} (r : Vals [x, y] us) : ∃ u w', us = [u, w'] ∧ RelV x u ∧ RelV y w' := by
  cases r with
  | cons r1 r2 =>
    cases r2 with
    | cons r3 r4 => cases r4; exact ⟨_, _, rfl, r1, r3⟩
theorem call_int1 : CallR X (.type "int") (fun xs H Q => (∃ i, xs = [.int i] ∧ Q (.int i) H) ∨ ∃ k, xs = [.bl k] ∧ Q (.int (if k then 1 else 0)) H) := by
  intro pins s σ H xs us Q I r h
  rcases h with ⟨i, rfl, q⟩ | ⟨k, rfl, q⟩
  · obtain ⟨u, rfl, t, rfl⟩ := vals1 r
    exact call_int_int ⟨.int i, H, I, ⟨_, rfl⟩, q⟩
  · obtain ⟨u, rfl, r1⟩ := vals1 r
    cases r1
    exact call_int_bool ⟨.int (if k then 1 else 0), H, I.tok _, ⟨_, rfl⟩, q⟩
noncomputable def LenV (K : PySem.W.Frag) (x : V) (H : Hp) (n : Nat) : Prop :=
  match x with
  | .str y => y.length ≤ sizeLine ∧ n = y.length
  | .byt y => y.size ≤ sizeLine ∧ n = y.size
  | .ref p => (∃ xs, SqL K H p xs ∧ n = xs.length) ∨ ∃ xs, SqT K H p xs ∧ n = xs.length
  | _ => False
theorem call_len : CallR X (.builtin "len") (fun xs H Q => ∃ x n, xs = [x] ∧ LenV X.K x H n ∧ Q (.int n) H) := by
  intro pins s σ H xs us Q I r h
  obtain ⟨x, n, rfl, e, q⟩ := h
  obtain ⟨u, rfl, rx⟩ := vals1 r
  have hl := line63
  have hs : sizeLine = 16777216 := sizeLine_eq
  cases x with
  | str y =>
    obtain ⟨t, rfl⟩ := rx
    obtain ⟨hy, e'⟩ : y.length ≤ sizeLine ∧ n = y.length := e
    subst e'
    exact len_str (by omega) ⟨.int _, H, I.tok _, ⟨_, rfl⟩, q⟩
  | byt y =>
    obtain ⟨t, rfl⟩ := rx
    obtain ⟨hy, e'⟩ : y.size ≤ sizeLine ∧ n = y.size := e
    subst e'
    exact PySem.W.len_bytes (by omega) ⟨.int _, H, I.tok _, ⟨_, rfl⟩, q⟩
  | ref p =>
    cases rx
    have e' : (∃ xs, SqL X.K H p xs ∧ n = xs.length) ∨ ∃ xs, SqT X.K H p xs ∧ n = xs.length := e
    rcases e' with ⟨xs, hx, e'⟩ | ⟨xs, hx, e'⟩
    · subst e'
      obtain ⟨its, r', pl, hz⟩ := I.list hx
      have hlen := r'.length
      exact Calls.call_len_list pl.isList (by simp only [List.size_toArray]; omega) ⟨.int xs.length, H, I.tok _, ⟨_, by simp only [List.size_toArray]; rw [hlen]⟩, q⟩
    · subst e'
      obtain ⟨its, r', pl, hz⟩ := I.tuple hx
      have hlen := r'.length
      exact len_tuple pl (by simp only [List.size_toArray]; omega) ⟨.int xs.length, H, I.tok _, ⟨_, by simp only [List.size_toArray]; rw [hlen]⟩, q⟩
  | _ => exact (show False from e).elim
end
end L2
namespace L2
open PySem PySem.Spec PyProof.Rows
structure ObjM (h : Heap) (x dx C : Addr) (mA : Str → Option Value) : Prop where
  obj : h.get? x = some (PySem.W.instObj C dx)
  ns : h.Ns1 dx mA
  ne : dx ≠ x
theorem lookIn_ns {h : Heap} {dx : Addr} {mA : Str → Option Value} (n : h.Ns1 dx mA) : ∃ od, h.get? dx = some od ∧ ∀ name, PySem.W.lookIn name od = some (mA name) := by
  obtain ⟨o, es, ep, ho, hd, hk, _, hm⟩ := n
  refine ⟨o, ho, fun name => ?_⟩
  have e := hm name
  unfold nsFind findBy at e
  rw [← Array.find?_toList] at e
  unfold PySem.W.lookIn
  rw [hd]
  dsimp only
  split
  · rename_i y q
    rw [q] at e
    exact congrArg some e
  · rename_i q
    rw [q] at e
    have a : es.toList.any (·.refKey) = false := by
      rw [List.any_eq_false]
      intro y hy
      obtain ⟨z, t, hkey⟩ := hk y (Array.mem_toList_iff.mp hy)
      simp [DictEntry.refKey, hkey]
    have a' : ¬ es.toList.any (·.refKey) = true := by rw [a]; exact Bool.false_ne_true
    rw [if_neg a']
    exact congrArg some e
theorem ObjM.look {h : Heap} {x dx C : Addr} {mA : Str → Option Value} (I : ObjM h x dx C mA) : ∃ od, PySem.W.InstAt h x (PySem.W.instObj C dx) C (some od) ∧ ∀ name, PySem.W.lookIn name od = some (mA name) :=
  let ⟨od, ho, hl⟩ := lookIn_ns I.ns
  ⟨od, ⟨I.obj, rfl, rfl, ho⟩, hl⟩
section
variable {prog : Program} {w : World} {A : Around} {E : Value → Shared → Prop} {s : Shared} {K : PySem.W.Frag} {x dx C f : Addr} {mA : Str → Option Value} {name : Str} {v : Value}
end
theorem RelO.some_of {v : V} {o : Option Value} (r : RelO (some v) o) : ∃ u, o = some u ∧ RelV v u := by
  cases o with
  | none => exact (show False from r).elim
  | some u => exact ⟨u, rfl, r⟩
section
variable {P : Program} {w : World} {H H' : Hp} {h h' : Heap} {a C dx : Addr} {fs fs' : List (Str × V)}
theorem ins_get (hok : HOk P w H h) (e : H a = some (.ins C dx fs)) : ∃ mA, ObjM h a dx C mA ∧ (∀ f, RelO (fs.lookup f) (mA f)) ∧ PySem.Within mA (fs.map (·.1)) ∧ fs.length ≤ 1000 ∧ H dx = some (.own a) := by
  obtain ⟨d, z, ne, ob, mA, n, r, q⟩ := (show ObjOk P w H h a (.ins C dx fs) from hok a _ e)
  exact ⟨mA, ⟨ob, n, ne⟩, r, q, z, d⟩
end
structure Cls (K : PySem.W.Frag) (C : Addr) : Prop where
  pg : PySem.W.plainGet K C Str.empty = true
  hd : PySem.W.hasDictIn K C = true
  po : PySem.W.plainOver K C = true
  sa : PySem.W.findIn K (.ref C) "__setattr__" = some (some (.builtin "object.__setattr__"))
theorem Cls.get {K : PySem.W.Frag} {C : Addr} (c : Cls K C) (f : Str) : PySem.W.plainGet K C f = true := c.pg
noncomputable def NoAttr (K : PySem.W.Frag) (C : Addr) (f : Str) : Prop := PySem.W.findIn K (.ref C) f = some none
section
variable {X : Cx} {pins : List (Addr × Obj)} {σ : St} {H : Hp} {s : Shared} {a C dx : Addr} {fs : List (Str × V)} {f : Str} {v : V} {A : Around} {E : Value → Shared → Prop}
end
section
variable {X : Cx} {o e value : Expr} {f : Str} {pos pos' tpos : Pos} {ta tv : TE}
end
section
variable {X : Cx} {pins : List (Addr × Obj)} {σ : St} {H : Hp} {s : Shared} {A : Around} {E : Value → Shared → Prop} {Q : Value → Shared → Prop} {c : Value} {b : Bool}
inductive TyOf (K : PySem.W.Frag) (H : Hp) : V → Value → Prop where
  | non : TyOf K H .non (.type "NoneType")
  | bl (x : Bool) : TyOf K H (.bl x) (.type "bool")
  | int (i : Int) : TyOf K H (.int i) (.type "int")
  | str (x : Str) : TyOf K H (.str x) (.type "str")
  | flt (x : UInt64) : TyOf K H (.flt x) (.type "float")
  | lst {a : Addr} {xs : List V} (e : H a = some (.lst xs)) : TyOf K H (.ref a) (.type "list")
  | frz {a : Addr} {o : Obj} {xs : List V} (e : H a = some (.frz o (.lst xs))) : TyOf K H (.ref a) (.type "list")
  | tup {a : Addr} {xs : List V} (e : H a = some (.tup xs)) : TyOf K H (.ref a) (.type "tuple")
  | dK {a : Addr} {kvs : List (Key × V)} (e : H a = some (.dK kvs)) : TyOf K H (.ref a) (.type "dict")
  | dT {a : Addr} {kvs : List (List Key × V)} (e : H a = some (.dT kvs)) : TyOf K H (.ref a) (.type "dict")
  | ins {a C dx : Addr} {fs : List (Str × V)} (e : H a = some (.ins C dx fs)) (cl : Cls K C) (ha : PySem.W.findIn K (.ref C) "__class__" = some (some (.builtin "object.__class__")))
      (hn : PySem.W.specialIn K (.builtin "object.__class__") "__get__" = some (some (.builtin "getset_descriptor.__get__"))) (htk : PySem.W.takesIn K (.builtin "object.__class__") = some true)
      (hm : PySem.W.mroIn K C (.type "object") = some true) : TyOf K H (.ref a) (.ref C)
theorem isinst_ok {x : V} {u t : Value} (I : Inv X pins σ H s) (rx : RelV x u) (ty : TyOf X.K H x t) (e : PySem.W.kitOne X.K t c = some b) (h : ∀ tk, Q (.bool b) { s with toks := tk }) :
    wpAny (model X.prog X.w) A (call (.builtin "isinstance") [u, c]) Q E s := by
  cases ty with
  | non => cases (show u = Value.none from rx); exact PySem.W.kia_one PySem.W.kitx_none I.kIn True.intro e (fun z => nomatch z) h
  | bl y => cases (show u = Value.bool y from rx); exact PySem.W.kia_one PySem.W.kitx_bool I.kIn True.intro e (fun z => nomatch z) h
  | int i => obtain ⟨t, q⟩ := (show ∃ t, u = Value.int i t from rx); cases q; exact PySem.W.kia_one PySem.W.kitx_int I.kIn True.intro e (fun z => nomatch z) h
  | str y => obtain ⟨t, q⟩ := (show ∃ t, u = Value.str y t from rx); cases q; exact PySem.W.kia_one PySem.W.kitx_str I.kIn True.intro e (fun z => nomatch z) h
  | flt y => obtain ⟨t, q⟩ := (show ∃ t, u = Value.float y t from rx); cases q; exact PySem.W.kia_one PySem.W.kitx_float I.kIn True.intro e (fun z => nomatch z) h
  | @lst a xs ea =>
    cases (show u = Value.ref a from rx)
    obtain ⟨_, _, n, _, h1⟩ := (show ObjOk X.prog X.w H s.heap a (.lst xs) from I.hok a _ ea)
    exact PySem.W.kia_one PySem.W.kitx_list I.kIn ⟨_, h1, rfl⟩ e (fun z => nomatch z) h
  | @frz a ob xs ea =>
    cases (show u = Value.ref a from rx)
    obtain ⟨_, _, _, n, _, h1⟩ := (show ObjOk X.prog X.w H s.heap a (.frz ob (.lst xs)) from I.hok a _ ea)
    exact PySem.W.kia_one PySem.W.kitx_list I.kIn ⟨_, h1, rfl⟩ e (fun z => nomatch z) h
  | @tup a xs ea =>
    cases (show u = Value.ref a from rx)
    obtain ⟨_, _, _, p⟩ := (show ObjOk X.prog X.w H s.heap a (.tup xs) from I.hok a _ ea)
    obtain ⟨o, h1, h2, _⟩ := p
    exact PySem.W.kia_one PySem.W.kitx_tuple I.kIn ⟨o, h1, h2⟩ e (fun z => nomatch z) h
  | @dK a kvs ea =>
    cases (show u = Value.ref a from rx)
    obtain ⟨_, _, vs, _, p⟩ := (show ObjOk X.prog X.w H s.heap a (.dK kvs) from I.hok a _ ea)
    obtain ⟨o, es, ep, h1, h2, _⟩ := p
    exact PySem.W.kia_one PySem.W.kitx_dict I.kIn ⟨o, h1, h2.1⟩ e (fun z => nomatch z) h
  | @dT a kvs ea =>
    cases (show u = Value.ref a from rx)
    obtain ⟨_, _, xs, _, o, es, ep, h1, h2, _⟩ := (show ObjOk X.prog X.w H s.heap a (.dT kvs) from I.hok a _ ea)
    exact PySem.W.kia_one PySem.W.kitx_dict I.kIn ⟨o, h1, h2.1⟩ e (fun z => nomatch z) h
  | @ins a C dx fs ea cl ha hn htk hm =>
    cases (show u = Value.ref a from rx)
    obtain ⟨mA, O, _⟩ := ins_get I.hok ea
    obtain ⟨od, J, _⟩ := O.look
    exact PySem.W.kia_one (PySem.W.kitx_own (cl.get _) cl.hd ha hn htk hm) I.kIn J e (fun z => nomatch z) h
end
end L2
namespace L2
open PySem PySem.Spec PyProof.Rows
structure Room (k : Nat) (A : Around) : Prop where
  hd : A.handled = none
  dp : A.depth + 3 * k + 5 < recursionLimit
  un : A.units + 16 * k + 200 < cLine
  gd : A.guards = some []
theorem Room.mono {j k : Nat} {A : Around} (r : Room k A) (h : j ≤ k) : Room j A := ⟨r.hd, by have := r.dp; omega, by have := r.un; omega, r.gd⟩
theorem Room.deeper {k : Nat} {A : Around} (r : Room (k + 1) A) (env : Env) : Room k (A.deeper env) :=
  ⟨r.hd, by have := r.dp; show A.depth + 1 + 3 * k + 5 < _; omega, by have := r.un; show A.units + 3 + 16 * k + 200 < _; omega, r.gd⟩
theorem Room.depth {k : Nat} {A : Around} (r : Room k A) : A.depth < recursionLimit := by have := r.dp; omega
theorem Room.units {k : Nat} {A : Around} (r : Room k A) : A.units + 64 < cLine := by have := r.un; omega
noncomputable def tNil : TA := fun _ H Q => Q [] H
noncomputable def tCons (ta : TE) (tr : TA) : TA := fun σ H Q => ta σ H fun x H1 => tr σ H1 fun xs H2 => Q (x :: xs) H2
section
variable {X : Cx} {e : Expr} {es : List Expr} {te : TE} {t : TA} {pos : Pos}
theorem pa_nil : PA X [] tNil := fun _ _ _ _ H Q I h => Calls.spliced_nil ⟨[], H, I, .nil, h⟩
theorem pa_cons (ha : PE X e te) (hr : PA X es t) (hs : starEach (e :: es) X.env = (false, eval e X.env) :: starEach es X.env := by with_unfolding_all rfl) : PA X (e :: es) (tCons te t) := by
  intro pos pins s σ H Q I h
  rw [hs]
  show wpAny _ _ (spliced ((false, eval e X.env) :: backTo pos (starEach es X.env))) _ _ s
  refine Calls.spliced_cons (thn (ha pins s σ H _ I h) fun u s1 ⟨x, H1, I1, r1, q1⟩ => ?_)
  exact thn (hr pos pins s1 σ H1 _ I1 q1) fun us s2 ⟨xs, H2, I2, r2, q2⟩ => ⟨x :: xs, H2, I2, .cons r1 r2, q2⟩
noncomputable def tTup (t : TA) : TE := fun σ H Q => t σ H fun xs H1 => xs.length ≤ sizeLine ∧ ∀ p, H1 p = none → Q (.ref p) (upd H1 p (.tup xs))
noncomputable def tLst (t : TA) : TE := fun σ H Q => t σ H fun xs H1 => xs.length ≤ sizeLine ∧ ∀ p, H1 p = none → Q (.ref p) (upd H1 p (.lst xs))
theorem pe_tup {x1} (h : PA X es t) : PE X (.Tuple es x1 pos) (tTup t) := by
  intro pins s σ H Q I hq
  refine wpAny_Tuple_spliced (thn (h pos pins s σ H _ I hq) fun us s1 ⟨xs, H1, I1, r, z, q⟩ => ⟨by rw [← r.length]; exact z, ?_⟩)
  have hf : H1 s1.heap.objs.size = none := I1.hok.fresh (Nat.le_refl _)
  refine ⟨.ref s1.heap.objs.size, upd H1 s1.heap.objs.size (.tup xs), I1.laid (t' := s1.toks) (fun b u e => Heap.get?_push_of_some _ e) (Nat.le_refl _) ?_, rfl, q _ hf⟩
  exact ⟨z, us, r, ⟨_, Heap.get?_push_size _ rfl, rfl, ⟨_, rfl⟩, rfl⟩⟩
theorem pe_lst (h : PA X es t) : PE X (.List es pos) (tLst t) := by
  intro pins s σ H Q I hq
  refine wpAny_List_spliced (thn (h pos pins s σ H _ I hq) fun us s1 ⟨xs, H1, I1, r, z, q⟩ => ⟨by rw [← r.length]; exact z, ?_⟩)
  have hf : H1 s1.heap.objs.size = none := I1.hok.fresh (Nat.le_refl _)
  refine ⟨.ref s1.heap.objs.size, upd H1 s1.heap.objs.size (.lst xs), I1.laid (t' := s1.toks) (fun b u e => Heap.get?_push_of_some _ e) (Nat.le_refl _) ?_, rfl, q _ hf⟩
  exact ⟨z, us, 0, r, Heap.get?_push_size _ rfl⟩
end
noncomputable abbrev Sp := List V → Hp → VK → XK → Prop
noncomputable abbrev CXT := List Env → Hp → Shared → XK → Value → Shared → Prop
structure Env0 (P : Program) (w : World) (K : PySem.W.Frag) (mg : Str → Option Value) (base : Heap) (A : Around) (outer : List Env) (s : Shared) (H : Hp) : Prop where
  frames : A.frames = some outer
  mod : Mod K mg base
  bs : ∀ b o, base.get? b = some o → s.heap.get? b = some o ∧ H b = none
  bsz : base.objs.size ≤ s.heap.objs.size
  funs : s.heap.FunFrames base outer
  frf : ∀ b ∈ frs outer, H b = none
  hok : HOk P w H s.heap
  bare : AllBare s.gens
noncomputable def CE (outer : List Env) (P : Program) (w : World) (H : Hp) (s : Shared) (Q : VK) (u : Value) (s' : Shared) : Prop :=
  ∃ v H', s'.os = s.os ∧ AllBare s'.gens ∧ Un (frs outer) [] H H' s.heap s'.heap ∧ HOk P w H' s'.heap ∧ RelV v u ∧ Q v H'
noncomputable def CR (CX : CXT) (outer : List Env) (P : Program) (w : World) (H : Hp) (s : Shared) (Q : VK) (E : XK) (r : Result) (s' : Shared) : Prop :=
  match r with
  | .ok (.ret u) => CE outer P w H s Q u s'
  | .ok _ => False
  | .error e => CX outer H s E e s'
structure FnOk (P : Program) (w : World) (K : PySem.W.Frag) (mg : Str → Option Value) (base : Heap) (CX : CXT) (k : Nat) (f : Addr) (fd : FuncData) (ps : List Str) (sp : Sp) : Prop where
  len : ∀ vs H Q E, sp vs H Q E → vs.length = ps.length
  run : ∀ (A : Around) (outer : List Env) (s : Shared) (H : Hp) (args : Args) (us : List Value) (vs : List V) (Q : VK) (E : XK), Room k A → Env0 P w K mg base A outer s H → BindsTo s fd args (ps.zip us) → Vals vs us → sp vs H Q E →
    codeAny (model P w) A (.call (.ref f) args) (CR CX outer P w H s Q E) s
section
variable {X : Cx} {pins : List (Addr × Obj)} {σ : St} {H : Hp} {s s' : Shared}
theorem Inv.env0 (I : Inv X pins σ H s) : Env0 X.prog X.w X.K X.mg X.base X.A X.stack s H :=
  ⟨I.ok.frames, I.ok.mod, I.bs, Nat.le_trans I.ok.bsz I.sz, I.stack, I.stkFree, I.hok, I.bare⟩
theorem Inv.after {Q : VK} {u : Value} (I : Inv X pins σ H s) (h : CE X.stack X.prog X.w H s Q u s') : EP X pins σ Q u s' := by
  obtain ⟨v, H', os, bare, un, hok, r, q⟩ := h
  obtain ⟨hh, g, d, t, os'⟩ := s'
  obtain rfl : os' = s.os := os
  exact ⟨v, H', I.call (h' := hh) (g' := g) (d' := d) (t' := t) (ch := []) un hok bare (fun b z => absurd z (by simp)), r, q⟩
end
noncomputable def tCall (sp : Sp) (dvs : List V) (E : XK) (t : TA) : TE := fun σ H Q => t σ H fun vs H1 => sp (vs ++ dvs) H1 Q E
noncomputable def Binds (K : PySem.W.Frag) (fd : FuncData) (ps : List Str) (ds : List Value) : Prop :=
  ∀ (s : Shared) (us : List Value), K.In s.heap → (us ++ ds).length = ps.length → BindsTo s fd ⟨us, []⟩ (ps.zip (us ++ ds))
theorem Binds.all {K : PySem.W.Frag} {fd : FuncData} {ps : List Str} (h : ∀ us : List Value, us.length = ps.length → bindArgs fd ⟨us, []⟩ = pure (ps.zip us)) : Binds K fd ps [] := fun s us _ hl => by
  rw [List.append_nil] at hl ⊢
  exact .of_eq (h us hl)
noncomputable def Passes (CX : CXT) (X : Cx) (E : XK) : Prop := ∀ (pins : List (Addr × Obj)) (σ : St) (H : Hp) (s : Shared) (e : Value) (s' : Shared), Inv X pins σ H s → CX X.stack H s E e s' → X.xe e s'
section
variable {X : Cx} {CX : CXT} {k : Nat} {f C : Addr} {fd : FuncData} {ps : List Str} {sp : Sp} {dvs : List V} {ds : List Value} {E : XK} {x m : Str} {p pos apos : Pos} {e o : Expr} {es : List Expr} {ta : TE} {t : TA}
theorem run_fn {pins : List (Addr × Obj)} {σ : St} {H : Hp} {s : Shared} {Q : VK} {us : List Value} {vs : List V} (F : FnOk X.prog X.w X.K X.mg X.base CX k f fd ps sp) (hr : Room k X.A) (hb : Binds X.K fd ps ds) (hd : Vals dvs ds) (hx : Passes CX X E)
    (I : Inv X pins σ H s) (r : Vals vs us) (h : sp (vs ++ dvs) H Q E) : wpAny (model X.prog X.w) X.A (call (.ref f) us) (EP X pins σ Q) X.xe s := by
  have r2 : Vals (vs ++ dvs) (us ++ ds) := r.append hd
  have hl : (us ++ ds).length = ps.length := by rw [← r2.length]; exact F.len _ _ _ _ h
  refine wpAny_call (codeAny_mono (F.run X.A X.stack s H ⟨us, []⟩ (us ++ ds) (vs ++ dvs) Q E hr I.env0 (hb s us I.kIn hl) r2 h) fun r s' hq => ?_)
  cases r with
  | error e => exact hx pins σ H s e s' I hq
  | ok fl =>
    cases fl with
    | ret u => exact I.after hq
    | next => exact False.elim hq
    | brk => exact False.elim hq
    | cont => exact False.elim hq
theorem pe_call (F : FnOk X.prog X.w X.K X.mg X.base CX k f fd ps sp) (hr : Room k X.A) (hg : Gl X x) (hm : X.mg x = some (.ref f)) (hk : PySem.W.keepIn X.K (.ref f) = true) (hb : Binds X.K fd ps ds) (hd : Vals dvs ds) (hx : Passes CX X E)
    (ha : PA X (e :: es) t) (hdb : (x == ("__debug__" : Str)) = false := by decide) (he : starEach (e :: es) X.env = (false, eval e X.env) :: starEach es X.env := by with_unfolding_all rfl) (hpl : (backTo pos (starEach es X.env)).any (·.1) = false := by with_unfolding_all rfl) :
    PE X (.Call (.Name x p) (e :: es) [] pos) (tCall sp dvs E t) := by
  intro pins s σ H Q I h
  refine wpAny_Call_Name_kw (ld_glob I hg hm ?_ hdb)
  refine PySem.W.callWith_K (h₀ := X.base) I.ok.mod.kin hk (thn (ha pos pins s σ H _ I h) fun us s1 ⟨vs, H1, I1, r, q⟩ => ⟨I1.kIn, ?_⟩) he hpl
  exact run_fn F hr hb hd hx I1 r q
end
section
variable {X : Cx} {CX : CXT} {k : Nat} {f C : Addr} {fd : FuncData} {ps ks : List Str} {sp : Sp} {E : XK} {x m : Str} {p pos apos kpos : Pos} {e o : Expr} {es : List Expr} {kws : List Keyword} {te ta : TE} {t tk : TA} {nm : Option Str}
variable {g : List Value → List Value → List Value} {gV : List V → List V → List V}
end
structure FnScope (N P : List Str) (sc : Scope) : Prop where
  kind : sc.kind = .function
  co : sc.isCoroutine = false
  gen : sc.isGenerator = false
  nd : N.Nodup
  pre : N.take P.length = P
  par : ∀ x ∈ P, sc.names.lookup x = some .local ∨ sc.names.lookup x = some .cell
  nofree : ∀ y ∈ sc.names, y.2 ≠ .free
theorem bindL_out {kindOf : Str → Option NameKind} {x : Str} : ∀ {binds : List (Str × Value)} {m : Str → Option Value}, (∀ v, (x, v) ∉ binds) → bindL kindOf binds m x = m x
  | [], _, _ => rfl
  | (n, v) :: r, m, h => by
    unfold bindL
    rw [bindL_out fun w hw => h w (List.mem_cons_of_mem _ hw)]
    split
    · have : x ≠ n := by rintro rfl; exact h v List.mem_cons_self
      simp [this]
    · rfl
theorem bindC_out {kindOf : Str → Option NameKind} {x : Str} : ∀ {binds : List (Str × Value)} {m : Str → Option Value}, (∀ v, (x, v) ∉ binds) → bindC kindOf binds m x = m x
  | [], _, _ => rfl
  | (n, v) :: r, m, h => by
    unfold bindC
    rw [bindC_out fun w hw => h w (List.mem_cons_of_mem _ hw)]
    split
    · rfl
    · have : x ≠ n := by rintro rfl; exact h v List.mem_cons_self
      simp [this]
theorem bindL_get {kindOf : Str → Option NameKind} {x : Str} {v : Value} : ∀ {P : List Str} {vs : List Value} {i : Nat} {m : Str → Option Value}, P.Nodup → P[i]? = some x → vs[i]? = some v → kindOf x = some .local →
    bindL kindOf (P.zip vs) m x = some v
  | [], _, _, _, _, h, _, _ => by simp at h
  | _ :: _, [], _, _, _, _, h, _ => by simp at h
  | p :: P, w :: vs, 0, m, nd, h1, h2, hk => by
    simp at h1 h2; subst h1; subst h2
    show bindL kindOf ((p, w) :: P.zip vs) m p = _
    unfold bindL
    rw [bindL_out fun v hv => (List.nodup_cons.mp nd).1 (List.of_mem_zip hv).1, if_pos hk]
    simp
  | p :: P, w :: vs, i + 1, m, nd, h1, h2, hk => by
    show bindL kindOf ((p, w) :: P.zip vs) m x = _
    unfold bindL
    exact bindL_get (i := i) (List.nodup_cons.mp nd).2 (by simpa using h1) (by simpa using h2) hk
theorem bindC_get {kindOf : Str → Option NameKind} {x : Str} {v : Value} : ∀ {P : List Str} {vs : List Value} {i : Nat} {m : Str → Option Value}, P.Nodup → P[i]? = some x → vs[i]? = some v → kindOf x ≠ some .local →
    bindC kindOf (P.zip vs) m x = some v
  | [], _, _, _, _, h, _, _ => by simp at h
  | _ :: _, [], _, _, _, _, h, _ => by simp at h
  | p :: P, w :: vs, 0, m, nd, h1, h2, hk => by
    simp at h1 h2; subst h1; subst h2
    show bindC kindOf ((p, w) :: P.zip vs) m p = _
    unfold bindC
    rw [bindC_out fun v hv => (List.nodup_cons.mp nd).1 (List.of_mem_zip hv).1, if_neg hk]
    simp
  | p :: P, w :: vs, i + 1, m, nd, h1, h2, hk => by
    show bindC kindOf ((p, w) :: P.zip vs) m x = _
    unfold bindC
    exact bindC_get (i := i) (List.nodup_cons.mp nd).2 (by simpa using h1) (by simpa using h2) hk
noncomputable def start (N : List Str) (vs : List V) : St := vs.map some ++ List.replicate (N.length - vs.length) none
noncomputable def cxOf (CX : CXT) (P : Program) (w : World) (K : PySem.W.Frag) (mg : Str → Option Value) (base : Heap) (N : List Str) (qual : Str) (scope : Scope) (f : Addr) (cd : Value) (A : Around) (outer : List Env) (s : Shared) (H : Hp) (E : XK) : Cx where
  prog := P
  w := w
  K := K
  mg := mg
  base := base
  A := A.deeper (envOfC qual scope s.heap.objs.size f cd)
  N := N
  s₀ := s
  H₀ := H
  env := envOfC qual scope s.heap.objs.size f cd
  outer := outer
  stack := envOfC qual scope s.heap.objs.size f cd :: outer
  ex := []
  calm := true
  fn := fun _ => true
  pn := []
  xe := fun e s' => wpAny (model P w) (A.deeper (envOfC qual scope s.heap.objs.size f cd)) (leaving (envOfC qual scope s.heap.objs.size f cd) e) (fun _ s'' => CX outer H s E e s'') (fun e' s'' => CX outer H s E e' s'') s'
theorem cell_has {sc : Scope} {n : Nat} {x : Str} (h : sc.names.lookup x = some .cell) : ∃ c, (cellsFrom n sc.names []).lookup x = some c := by
  have q := PySem.W.cellsFrom_some sc.names n [] (.inl h)
  exact Option.isSome_iff_exists.mp q
theorem inv_start {CX : CXT} {P : Program} {w : World} {K : PySem.W.Frag} {mg : Str → Option Value} {base : Heap} {N ps : List Str} {qual : Str} {scope : Scope} {f : Addr} {cd : Value} {A : Around} {outer : List Env} {s s1 : Shared} {H : Hp} {E : XK} {us : List Value} {vs : List V}
    (S : FnScope N ps scope) (hd : A.handled = none) (e0 : Env0 P w K mg base A outer s H) (hl : vs.length = ps.length) (r : Vals vs us)
    (x : InCallC s s.heap.objs.size (bindL (envOfC qual scope s.heap.objs.size f cd).kindOf (ps.zip us) fun _ => none) (cellsFrom (s.heap.objs.size + 1) scope.names []) (bindC (envOfC qual scope s.heap.objs.size f cd).kindOf (ps.zip us) fun _ => none) s1) :
    Inv (cxOf CX P w K mg base N qual scope f cd A outer s H E) [] (start N vs) H s1 := by
  have hpl : ps.length ≤ N.length := by have := congrArg List.length S.pre; rw [List.length_take] at this; omega
  obtain ⟨h1, tk, rfl, hk⟩ := x.done
  have noA : ∀ b : Addr, b ∉ (cxOf CX P w K mg base N qual scope f cd A outer s H E).ex := fun b z => absurd (show b ∈ ([] : List Addr) from z) (by simp)
  refine ⟨⟨e0.mod, S.kind, rfl, rfl, Nat.le_refl _, fun y z c h1 h2 => ?_, fun y hy => ?_, fun y c _ h => ?_, fun _ => hd, Around.frames_deeper e0.frames, .inr ⟨rfl, rfl⟩, fun b z => absurd z (noA b), e0.bs, e0.bsz, fun b _ _ => noA b, fun b z => absurd z (noA b), e0.funs, e0.frf⟩,
    rfl, e0.bare, Un.kept hk, ⟨_, x.toInCall.ns, fun i y v h1 h2 h3 => ?_⟩, fun y c h => ⟨_, x.cell y c h⟩, e0.hok.fresh (Nat.le_refl _), fun y c h => ?_, fun p hp => absurd (show p ∈ ([] : List (Addr × Obj)) from hp) (by simp), e0.hok.kept hk, ?_⟩
  · exact name_of_addr x.apart (PySem.mem_of_lookup h1) (PySem.mem_of_lookup h2)
  · have hy : scope.names.lookup y = some .cell ∨ scope.names.lookup y = some .free := hy
    rcases hy with hy | hy
    · exact cell_has hy
    · exact absurd rfl (S.nofree _ (PySem.mem_of_lookup hy))
  · exact Nat.le_of_lt (x.above y c (PySem.mem_of_lookup h))
  · have hi : i < vs.length := by
      unfold start at h2
      by_cases hi : i < vs.length
      · exact hi
      · rw [List.getElem?_append_right (by simpa using hi)] at h2
        rw [List.getElem?_replicate] at h2
        split at h2 <;> cases h2
    have ha : vs[i]? = some v := by
      unfold start at h2
      rw [List.getElem?_append_left (by simpa using hi), List.getElem?_map] at h2
      cases e : vs[i]? with
      | none => rw [e] at h2; cases h2
      | some a => rw [e] at h2; cases h2; rfl
    obtain ⟨u, hu, rv⟩ := r.get ha
    have hp : ps[i]? = some y := by
      rw [← S.pre, List.getElem?_take_of_lt (by omega)]; exact h1
    have ndP : ps.Nodup := by rw [← S.pre]; exact S.nd.sublist (List.take_sublist _ _)
    refine ⟨u, rv, ?_⟩
    rcases S.par y (List.mem_of_getElem? hp) with k | k
    · exact .inl ⟨k, bindL_get ndP hp hu k⟩
    · obtain ⟨c, e⟩ := cell_has (n := s.heap.objs.size + 1) k
      refine .inr ⟨.inl k, c, e, ?_⟩
      have q := x.cell y c e
      rw [bindC_get ndP hp hu (by show scope.names.lookup y ≠ _; rw [k]; decide)] at q
      exact q
  · exact e0.hok.fresh (Nat.le_of_lt (x.above y c (PySem.mem_of_lookup h)))
  · unfold start
    show _ = N.length
    rw [List.length_append, List.length_map, List.length_replicate]
    omega
theorem fn_of {CX : CXT} {P : Program} {w : World} {K : PySem.W.Frag} {mg : Str → Option Value} {base : Heap} {k : Nat} {f : Addr} {name qual : Str} {params : Arguments} {body : List Stmt} {scope : Scope} {dV kV doc pm cdv ct oc : Value} {an od : Option Addr}
    {osl : Array (Option Value)} {N ps : List Str} {sp : Sp} (lk : K.lookup f = some ⟨oc, od, .func (PySem.W.fnOf name qual params body scope dV kV doc pm an cdv ct), osl⟩) (hcd : PySem.W.codeIn K cdv qual = true) (S : FnScope N ps scope)
    (len : ∀ vs H Q E, sp vs H Q E → vs.length = ps.length)
    (hbody : ∀ (A : Around) (outer : List Env) (s : Shared) (H : Hp) (vs : List V) (Q : VK) (E : XK), Room k (A.deeper (envOfC qual scope s.heap.objs.size f cdv)) → sp vs H Q E →
      ∃ t, PSs (cxOf CX P w K mg base N qual scope f cdv A outer s H E) body t ∧ t { nx := fun _ H' => Q .non H', rt := Q } (start N vs) H) :
    FnOk P w K mg base CX (k + 1) f (PySem.W.fnOf name qual params body scope dV kV doc pm an cdv ct) ps sp := by
  refine ⟨len, fun A outer s H args us vs Q E hr e0 hb r hsp => ?_⟩
  have hl := len _ _ _ _ hsp
  have KX : K.In s.heap := e0.mod.kin.keeps fun b o e => (e0.bs b o e).1
  have lim : s.heap.NoLimit := e0.mod.nolimit.keeps fun b o e => (e0.bs b o e).1
  have hkind : ∀ y ∈ ps.zip us, scope.names.lookup y.1 = some .local ∨ (scope.names.lookup y.1 = some .cell ∧ ((cellsFrom (s.heap.objs.size + 1) scope.names []).lookup y.1).isSome = true) := fun ⟨n, v⟩ hy => by
    rcases S.par n (List.of_mem_zip hy).1 with q | q
    · exact .inl q
    · exact .inr ⟨q, PySem.W.cellsFrom_some _ _ _ (.inl q)⟩
  refine codeAny_call_function hr.depth (KX _ _ lk) rfl S.co S.gen rfl (PySem.W.codeRec_of KX hcd) (hb _ _ _ _ ?_)
  refine wpAny_newFunctionEnv_cells S.kind hkind fun env he s1 x => ?_
  subst he
  refine ⟨lim.keeps x.toInCall.keep, codeAny_func ?_⟩
  obtain ⟨t, ht, hq⟩ := hbody A outer s H vs Q E (hr.deeper _) hsp
  have I : Inv (cxOf CX P w K mg base N qual scope f cdv A outer s H E) [] (start N vs) H s1 := inv_start S hr.hd e0 hl r x
  refine wpAny_mono (ht [] s1 (start N vs) H _ I hq) (fun fl s' hs => ?_) fun e s' hs => hs
  have fin : ∀ {σ' : St} {H' : Hp} {v : V} {u : Value}, Inv (cxOf CX P w K mg base N qual scope f cdv A outer s H E) [] σ' H' s' → RelV v u → Q v H' → CE outer P w H s Q u s' :=
    fun {σ' H' v u} J rv q => ⟨v, H', J.os, J.bare, J.base, J.hok, rv, q⟩
  cases fl with
  | ret u =>
    obtain ⟨v, σ', H', J, rv, q⟩ := hs
    exact fin J rv q
  | next =>
    obtain ⟨σ', H', J, q⟩ := hs
    exact fin (v := V.non) (u := Value.none) J rfl q
  | brk =>
    obtain ⟨_, _, _, q⟩ := hs
    exact False.elim q
  | cont =>
    obtain ⟨_, _, _, q⟩ := hs
    exact False.elim q
end L2
namespace L2
open PySem PySem.Spec PyProof.Rows
section
variable {X : Cx} {x : Str} {p pos : Pos} {e : Expr} {es : List Expr} {t : TA} {id T : String} {r : List V → Hp → VK → Prop}
noncomputable def tCB (r : List V → Hp → VK → Prop) (t : TA) : TE := fun σ H Q => t σ H fun vs H1 => r vs H1 Q
theorem pe_callB (hc : CallR X (.builtin id) r) (hg : Gl X x) (hm : X.mg x = none) (hv : bootBuiltins x = some (.builtin id)) (ha : PA X (e :: es) t) (hn : x ≠ "__name__" := by decide) (hdb : (x == ("__debug__" : Str)) = false := by decide)
    (he : starEach (e :: es) X.env = (false, eval e X.env) :: starEach es X.env := by with_unfolding_all rfl) (hpl : (backTo pos (starEach es X.env)).any (·.1) = false := by with_unfolding_all rfl) : PE X (.Call (.Name x p) (e :: es) [] pos) (tCB r t) := by
  intro pins s σ H Q I h
  refine wpAny_Call_Name_kw (ld_blt I hg hm hv ?_ hn hdb)
  exact PyProof.Rows.callWith_builtin1 (thn (ha pos pins s σ H _ I h) fun us s1 ⟨vs, H1, I1, r1, q1⟩ => hc pins s1 σ H1 vs us Q I1 r1 q1) he hpl
theorem pe_callTy (hc : CallR X (.type T) r) (hg : Gl X x) (hm : X.mg x = none) (hv : bootBuiltins x = some (.type T)) (ha : PA X (e :: es) t) (hn : x ≠ "__name__" := by decide) (hdb : (x == ("__debug__" : Str)) = false := by decide)
    (he : starEach (e :: es) X.env = (false, eval e X.env) :: starEach es X.env := by with_unfolding_all rfl) (hpl : (backTo pos (starEach es X.env)).any (·.1) = false := by with_unfolding_all rfl) : PE X (.Call (.Name x p) (e :: es) [] pos) (tCB r t) := by
  intro pins s σ H Q I h
  refine wpAny_Call_Name_kw (ld_blt I hg hm hv ?_ hn hdb)
  exact PyProof.Rows.callWith_type1 (thn (ha pos pins s σ H _ I h) fun us s1 ⟨vs, H1, I1, r1, q1⟩ => hc pins s1 σ H1 vs us Q I1 r1 q1) he hpl
end
end L2
namespace HT
open PySem PyProof.Rows
section
open PySem.SeqAt
open PySem.AutoSeq1 (wpAny_loadPart')
open PySem.MeetsSeq PySem.MeetsSeq2 PySem.MeetsSeq3
end
section
variable {prog : Program} {w : World} {A : Around} {E : Value → Shared → Prop} {s : Shared}
theorem cat_tup {t b : Addr} {vs ws : List Value} {Q : Value → Shared → Prop} (ht : IsTup s.heap t vs.toArray) (hb : IsTup s.heap b ws.toArray) (hv : vs ≠ [])
    (h1 : ws = [] → Q (.ref t) s) (h2 : ws ≠ [] → Q (.ref s.heap.objs.size) { s with heap := s.heap.push { cls := .type "tuple", data := .seq (vs ++ ws).toArray } })
    (hsz : vs.length + ws.length ≤ sizeLine) : wpAny (model prog w) A (binaryOp .Add (.ref t) (.ref b)) Q E s := by
  obtain ⟨⟨cls, dd, data, sl⟩, ho, hc, n, hd⟩ := id ht
  obtain ⟨⟨cls2, dd2, data2, sl2⟩, ho2, hc2, n2, hd2⟩ := id hb
  simp only at hc hd hc2 hd2
  subst hc hd hc2 hd2
  have e : vs.toArray ++ ws.toArray = (vs ++ ws).toArray := by simp
  by_cases hw : ws = []
  · exact concat_meets ⟨_, ho, rfl⟩ ⟨_, ho2, rfl⟩ noFill_tuple_add seq_tuple_add PySem.F.slot_tuple_add PySem.F.entry_tuple_add (PySem.F.args_tuple_add_2 _ _)
      (tuple_addW1 t b vs.toArray ws.toArray n n2 dd dd2 sl sl2 (by simpa using hv) (by simp [hw])) ⟨ho, ho2, h1 hw⟩
  · refine concat_meets ⟨_, ho, rfl⟩ ⟨_, ho2, rfl⟩ noFill_tuple_add seq_tuple_add PySem.F.slot_tuple_add PySem.F.entry_tuple_add (PySem.F.args_tuple_add_2 _ _)
      (tuple_addW2 t b vs.toArray ws.toArray n n2 dd dd2 sl sl2 (by simpa using hv) (by simpa using hw) (by rw [List.size_toArray, List.size_toArray]; exact hsz)) ⟨ho, ho2, ?_⟩
    rw [e]
    exact h2 hw
noncomputable def sIx (n d : Nat) : Option Int → Nat
  | none => d
  | some v => if v < 0 then (v + (n : Int)).toNat else min v.toNat n
theorem sIx_le (n d : Nat) (hd : d ≤ n) (o : Option Int) : sIx n d o ≤ n := by
  cases o with
  | none => exact hd
  | some v =>
    show (if v < 0 then (v + (n : Int)).toNat else min v.toNat n) ≤ n
    by_cases hv : v < 0
    · rw [if_pos hv]; omega
    · rw [if_neg hv]; exact Nat.min_le_right _ _
theorem clip_eq (v : Int) (n d : Nat) : (if v < 0 then max (v + (n : Int)) 0 else min v (n : Int)) = ((sIx n d (some v) : Nat) : Int) := by
  show (if v < 0 then max (v + (n : Int)) 0 else min v (n : Int)) = (((if v < 0 then (v + (n : Int)).toNat else min v.toNat n) : Nat) : Int)
  by_cases hv : v < 0
  · simp only [if_pos hv]; omega
  · simp only [if_neg hv]; omega
theorem adjust_gen (lo hi : Option Int) (n : Nat) : Builtin.Slice.sliceAdjust lo hi 1 (n : Int) = (((sIx n 0 lo : Nat) : Int), ((sIx n n hi : Nat) : Int)) := by
  have h1 : ¬ ((1 : Int) < 0) := by omega
  unfold Builtin.Slice.sliceAdjust
  simp only [h1, if_false]
  refine Prod.ext ?_ ?_
  · cases lo with
    | none => rfl
    | some v => exact clip_eq v n 0
  · cases hi with
    | none => rfl
    | some v => exact clip_eq v n n
theorem places_gen (i j : Nat) : Builtin.Slice.slicePlaces (i : Int) (j : Int) 1 = j - i := by
  unfold Builtin.Slice.slicePlaces
  have h1 : (1 : Int) > 0 := by omega
  simp only [h1, if_true, Int.ediv_one]
  split <;> omega
theorem slicePart_ {v : Value} {o : Option Int} {Q : Option Int → Shared → Prop} (p : IsPart v o) (h : Q o s) : wpAny (model prog w) A (Builtin.Slice.slicePartIndex v) Q E s := by
  cases p with
  | none => exact slicePart_none h
  | int i t => exact slicePart_int h
theorem sliceApplied_gen {sl : Addr} {vl vu : Value} {lo hi : Option Int} {n : Nat} {Q : Int × Int × Nat → Shared → Prop} (hs : s.heap.IsSliceOf sl vl vu .none) (pl : IsPart vl lo) (pu : IsPart vu hi)
    (h : Q (((sIx n 0 lo : Nat) : Int), 1, sIx n n hi - sIx n 0 lo) s) : wpAny (model prog w) A (Builtin.Slice.sliceApplied (.ref sl) (pure (n : Int))) Q E s := by
  obtain ⟨os, hos, hcs, hds⟩ := id hs
  unfold Builtin.Slice.sliceApplied Builtin.Slice.sliceFields
  refine wpAny_bind (wpAny_bind (wpAny_field hos hds (x := vl) rfl (wpAny_bind (wpAny_field hos hds (x := vu) rfl (wpAny_bind (wpAny_field hos hds (x := .none) rfl (wpAny_pure ?_)))))))
  refine wpAny_bind (slicePart_none ?_)
  show wpAny _ _ (if ((1 : Int) == 0) = true then _ else _) _ _ s
  rw [if_neg (by decide)]
  refine wpAny_bind (slicePart_ pl (wpAny_bind (slicePart_ pu (wpAny_bind (wpAny_pure ?_)))))
  show wpAny _ _ (match Builtin.Slice.sliceAdjust lo hi 1 (n : Int) with | (lo, hi) => pure (lo, (1 : Int), Builtin.Slice.slicePlaces lo hi 1)) _ _ s
  rw [adjust_gen lo hi n]
  show wpAny _ _ (pure (((sIx n 0 lo : Nat) : Int), (1 : Int), Builtin.Slice.slicePlaces ((sIx n 0 lo : Nat) : Int) ((sIx n n hi : Nat) : Int) 1)) _ _ s
  rw [places_gen]
  exact wpAny_pure h
theorem pick_gen (xs : Array Value) (i k : Nat) : ((List.range k).filterMap fun (m : Nat) => xs[((i : Int) + (m : Int) * 1).toNat]?).toArray = ((xs.toList.drop i).take k).toArray := by
  have e : (fun (m : Nat) => xs[((i : Int) + (m : Int) * 1).toNat]?) = fun m => xs[i + m]? := by
    funext m
    have : ((i : Int) + (m : Int) * 1).toNat = i + m := by omega
    rw [this]
  rw [e]
  have := pick_run xs i k
  rw [List.filterMap_map] at this
  have e2 : ((fun x => xs[x]?) ∘ fun x => i + x) = fun m => xs[i + m]? := rfl
  rw [e2] at this
  rw [this]
theorem getItem_tuple_cut {t sl : Addr} {items : Array Value} {vl vu : Value} {lo hi : Option Int} {Q : Value → Shared → Prop} (ht : IsTup s.heap t items) (hs : s.heap.IsSliceOf sl vl vu .none) (pl : IsPart vl lo) (pu : IsPart vu hi)
    (hw : ¬ (sIx items.size 0 lo = 0 ∧ sIx items.size items.size hi = items.size))
    (h : Q (.ref s.heap.objs.size) { s with heap := s.heap.push { cls := .type "tuple", data := .seq ((items.toList.drop (sIx items.size 0 lo)).take (sIx items.size items.size hi - sIx items.size 0 lo)).toArray } })
    (hsz : items.size ≤ sizeLine) : wpAny (model prog w) A (getItem (.ref t) (.ref sl)) Q E s := by
  have htake : sizeOk (.seq ((items.toList.drop (sIx items.size 0 lo)).take (sIx items.size items.size hi - sIx items.size 0 lo)).toArray) := by
    show ((items.toList.drop (sIx items.size 0 lo)).take (sIx items.size items.size hi - sIx items.size 0 lo)).toArray.size ≤ sizeLine
    rw [List.size_toArray, List.length_take, List.length_drop, Array.length_toList]
    omega
  have hj : sIx items.size items.size hi ≤ items.size := sIx_le _ _ (Nat.le_refl _) hi
  obtain ⟨os, hos, hcs, hds⟩ := id hs
  have hTs : s.TypeIs (.ref sl) "slice" := ⟨os, hos, hcs⟩
  unfold getItem
  try with_reducible refine wpAny_holding ?_
  first | refine wpAny_bind (wpAny_pure ?_) | skip
  refine wpAny_bind (wpAny_sequenceKey ht.typeIs (by decide) ?_)
  refine wpAny_bind (wpAny_callSpecial?_slot (name := Str.ofString "__getitem__") ht.typeIs PyProof.Rows.slot_tuple_getitem
    (wpAny_call_entry PyProof.Rows.slot_tuple_getitem ht.typeIs entry_tuple_getitem ?_ (args_tuple_getitem _ _)))
  show wpAny _ _ (Builtin.Tuple.tupleItemsOf (.ref t) >>= _) _ _ s
  refine wpAny_bind (tupleItemsOf_ ht ?_)
  refine wpAny_bind (wpAny_typeOf hTs ?_)
  rw [if_pos (by decide)]
  refine wpAny_bind (sliceApplied_gen hs pl pu ?_)
  have hno : ¬ ((((sIx items.size 0 lo : Nat) : Int) == 0 && (1 : Int) == 1 && (sIx items.size items.size hi - sIx items.size 0 lo) == items.size) = true) := by
    intro q
    rw [Bool.and_eq_true, Bool.and_eq_true] at q
    have q1 : ((sIx items.size 0 lo : Nat) : Int) = 0 := eq_of_beq q.1.1
    have q2 : sIx items.size items.size hi - sIx items.size 0 lo = items.size := eq_of_beq q.2
    exact hw ⟨by omega, by omega⟩
  show wpAny _ _ (if (((sIx items.size 0 lo : Nat) : Int) == 0 && (1 : Int) == 1 && (sIx items.size items.size hi - sIx items.size 0 lo) == items.size) = true then _ else _) _ _ s
  rw [if_neg hno, pick_gen]
  first
    | exact wpAny_bind (m := Builtin.Tuple.tupleExact _) (wpAny_newObj_type (wpAny_pure ⟨_, rfl, wpAny_pure h⟩) htake)
    | exact wpAny_bind (m := Builtin.Tuple.tupleExact _) (wpAny_newObj_type (wpAny_bind (wpAny_pure (wpAny_pure ⟨_, rfl, wpAny_pure h⟩))) htake)
    | exact wpAny_bind (wpAny_bind (m := Builtin.Tuple.tupleExact _) (wpAny_newObj_type (wpAny_pure (wpAny_pure ⟨_, rfl, wpAny_pure h⟩)) htake))
    | exact wpAny_bind (wpAny_bind (m := Builtin.Tuple.tupleExact _) (wpAny_newObj_type (wpAny_pure ⟨_, rfl, wpAny_pure h⟩) htake))
end
end HT
namespace L2
open PySem PySem.Spec PyProof.Rows
noncomputable abbrev TO := St → Hp → (Option Int → Hp → Prop) → Prop
noncomputable def PO (X : Cx) (e : Option Expr) (t : TO) : Prop :=
  ∀ (pins : List (Addr × Obj)) (s : Shared) (σ : St) (H : Hp) (Q : Option Int → Hp → Prop), Inv X pins σ H s → t σ H Q →
    wpAny (model X.prog X.w) X.A (evalPart e X.env) (fun u s' => ∃ o H', Inv X pins σ H' s' ∧ IsPart u o ∧ Q o H') X.xe s
noncomputable def tNoPart : TO := fun _ H Q => Q none H
noncomputable def tPart (t : TE) : TO := fun σ H Q => t σ H fun x H1 => ∃ i, x = .int i ∧ Q (some i) H1
section
variable {X : Cx} {e : Expr} {te : TE} {lo hi : Option Expr} {tl th : TO} {pos p2 : Pos}
theorem po_none : PO X none tNoPart := by
  intro pins s σ H Q I h
  rw [evalPart_none]
  exact wpAny_pure ⟨none, H, I, .none, h⟩
theorem po_some (h : PE X e te) : PO X (some e) (tPart te) := by
  intro pins s σ H Q I hw
  rw [evalPart_some]
  refine thn (h pins s σ H _ I hw) fun u s1 ⟨x, H1, I1, r1, q1⟩ => ?_
  obtain ⟨i, rfl, q⟩ := q1
  obtain ⟨t, rfl⟩ := r1
  exact ⟨some i, H1, I1, .int i t, q⟩
noncomputable def SlR (X : Cx) (r : V → Option Int → Option Int → Hp → VK → Prop) : Prop :=
  ∀ (pins : List (Addr × Obj)) (s : Shared) (σ : St) (H : Hp) (x : V) (v vl vu : Value) (lo hi : Option Int) (sl : Addr) (Q : VK), Inv X pins σ H s → RelV x v → s.heap.IsSliceOf sl vl vu .none → IsPart vl lo → IsPart vu hi → r x lo hi H Q →
    ∃ T id, typeLookup (.type T) "__getitem__" = pure (some (.builtin id)) ∧ s.TypeIs v T ∧ wpAny (model X.prog X.w) X.A (getItem v (.ref sl)) (EP X pins σ Q) X.xe s
theorem SlR.or {r r' : V → Option Int → Option Int → Hp → VK → Prop} (h : SlR X r) (h' : SlR X r') : SlR X (fun x lo hi H Q => r x lo hi H Q ∨ r' x lo hi H Q) := by
  intro pins s σ H x v vl vu lo hi sl Q I rx hs pl pu q
  rcases q with q | q
  · exact h pins s σ H x v vl vu lo hi sl Q I rx hs pl pu q
  · exact h' pins s σ H x v vl vu lo hi sl Q I rx hs pl pu q
noncomputable def tSl (r : V → Option Int → Option Int → Hp → VK → Prop) (te : TE) (tl th : TO) : TE := fun σ H Q => te σ H fun x H1 => tl σ H1 fun l H2 => th σ H2 fun u H3 => r x l u H3 Q
theorem pe_slice {r : V → Option Int → Option Int → Hp → VK → Prop} (hr : SlR X r) (he : PE X e te) (hl : PO X lo tl) (hu : PO X hi th) : PE X (.Subscript e (.Slice lo hi none p2) pos) (tSl r te tl th) := by
  intro pins s σ H Q I h
  refine Subscript_ (thn (he pins s σ H _ I h) fun v s1 ⟨x, H1, I1, r1, q1⟩ => ?_)
  refine wpAny_Slice (thn (hl pins s1 σ H1 _ I1 q1) fun vl s2 ⟨l, H2, I2, pl, q2⟩ => thn (hu pins s2 σ H2 _ I2 q2) fun vu s3 ⟨u, H3, I3, pu, q3⟩ => ?_)
  rw [evalPart_none]
  refine wpAny_pure ?_
  have I4 : Inv X pins σ H3 { s3 with heap := s3.heap.push { cls := .type "slice", data := .fields #[vl, vu, .none] } } := I3.kept (t' := s3.toks) fun b ob q => Heap.get?_push_of_some _ q
  obtain ⟨T, id, hT, ht, hg⟩ := hr pins { s3 with heap := s3.heap.push { cls := .type "slice", data := .fields #[vl, vu, .none] } } σ H3 x v vl vu l u s3.heap.objs.size Q I4 r1 (Heap.IsSliceOf.new ..) pl pu q3
  show wpAny (model X.prog X.w) X.A (subscriptTail e (.Slice lo hi none p2) v (.ref s3.heap.objs.size)) (EP X pins σ Q) X.xe { s3 with heap := s3.heap.push { cls := .type "slice", data := .fields #[vl, vu, .none] } }
  exact tail_any (ops := [.ref s3.heap.objs.size, v]) ht hT hg (by with_unfolding_all rfl)
noncomputable def cutV (xs : List V) (lo hi : Option Int) : List V := (xs.drop (HT.sIx xs.length 0 lo)).take (HT.sIx xs.length xs.length hi - HT.sIx xs.length 0 lo)
theorem cutV_length (xs : List V) (lo hi : Option Int) : (cutV xs lo hi).length ≤ xs.length := by
  unfold cutV
  rw [List.length_take, List.length_drop]
  omega
noncomputable def rSlT (K : PySem.W.Frag) : V → Option Int → Option Int → Hp → VK → Prop := fun x lo hi H Q => ∃ a xs, x = .ref a ∧ SqT K H a xs ∧
  ¬ (HT.sIx xs.length 0 lo = 0 ∧ HT.sIx xs.length xs.length hi = xs.length) ∧ ∀ p, H p = none → Q (.ref p) (upd H p (.tup (cutV xs lo hi)))
theorem sl_tup : SlR X (rSlT X.K) := by
  intro pins s σ H x v vl vu lo hi sl Q I rx hs pl pu h
  obtain ⟨a, xs, rfl, hx, hw, q⟩ := h
  cases rx
  obtain ⟨its, r, ht, hz⟩ := I.tuple hx
  have hlen : its.toArray.size = xs.length := by rw [List.size_toArray]; exact r.length.symm
  refine ⟨"tuple", _, PyProof.Rows.slot_tuple_getitem.lookup, ht.typeIs, ?_⟩
  refine HT.getItem_tuple_cut ht hs pl pu (by rw [hlen]; exact hw) ?_ (by rw [hlen]; exact hz)
  rw [hlen]
  refine ⟨.ref s.heap.objs.size, _, I.laid (t' := s.toks) (o := .tup (cutV xs lo hi)) (fun b ob q => Heap.get?_push_of_some _ q) (Nat.le_refl _) ?_, rfl, q _ (I.hok.fresh (Nat.le_refl _))⟩
  exact ⟨Nat.le_trans (cutV_length xs lo hi) hz, _, (r.drop (HT.sIx xs.length 0 lo)).take (HT.sIx xs.length xs.length hi - HT.sIx xs.length 0 lo), IsTupN.new _ _⟩
noncomputable def rCatT (K : PySem.W.Frag) : R2 := fun x y H Q => ∃ a b xs ys, x = .ref a ∧ y = .ref b ∧ SqT K H a xs ∧ SqT K H b ys ∧ xs ≠ [] ∧ xs.length + ys.length ≤ sizeLine ∧
  (ys = [] → Q (.ref a) H) ∧ (ys ≠ [] → ∀ p, H p = none → Q (.ref p) (upd H p (.tup (xs ++ ys))))
theorem Vals.nil_iff {xs : List V} {us : List Value} (r : Vals xs us) : us = [] ↔ xs = [] := by
  cases r with
  | nil => simp
  | cons _ _ => simp
theorem op_catT : OpR X (binaryOp .Add) (rCatT X.K) := by
  intro pins s σ H x y v u Q I rx ry h
  obtain ⟨a, b, xs, ys, rfl, rfl, ha, hb, hx, hz, q1, q2⟩ := h
  cases rx
  cases ry
  obtain ⟨its, r1, p1, _⟩ := I.tuple ha
  obtain ⟨its2, r2, p2, _⟩ := I.tuple hb
  refine HT.cat_tup p1 p2 (fun z => hx (r1.nil_iff.mp z)) (fun z => ⟨.ref a, H, I, rfl, q1 (r2.nil_iff.mp z)⟩) (fun z => ?_) (by rw [← r1.length, ← r2.length]; exact hz)
  refine ⟨.ref s.heap.objs.size, _, I.laid (t' := s.toks) (o := .tup (xs ++ ys)) (fun b ob q => Heap.get?_push_of_some _ q) (Nat.le_refl _) ?_, rfl, q2 (fun w => z (r2.nil_iff.mpr w)) _ (I.hok.fresh (Nat.le_refl _))⟩
  exact ⟨by rw [List.length_append]; exact hz, _, r1.append r2, IsTupN.new _ _⟩
end
end L2
namespace L2
open PySem PySem.Spec PyProof.Rows
noncomputable def ixN (n : Nat) (i : Int) : Option Nat := if 0 ≤ i then (if i < n then some i.toNat else none) else if -(n : Int) ≤ i then some (i + n).toNat else none
noncomputable def atI {α : Type} (xs : List α) (i : Int) : Option α := (ixN xs.length i).bind fun j => xs[j]?
theorem ixN_seq {n : Nat} {i : Int} {j : Nat} (h : ixN n i = some j) : seqIndex? i n = some j ∧ j < n ∧ -(n : Int) ≤ i ∧ i < n := by
  unfold ixN at h
  by_cases h0 : 0 ≤ i
  · rw [if_pos h0] at h
    by_cases h1 : i < n
    · rw [if_pos h1] at h
      have e : i.toNat = j := Option.some.inj h
      exact ⟨by rw [seqIndex_of h0 h1, e], by omega, by omega, h1⟩
    · rw [if_neg h1] at h; cases h
  · rw [if_neg h0] at h
    by_cases h1 : -(n : Int) ≤ i
    · rw [if_pos h1] at h
      have e : (i + n).toNat = j := Option.some.inj h
      exact ⟨by rw [seqIndex_neg (by omega) h1, e], by omega, h1, by omega⟩
    · rw [if_neg h1] at h; cases h
theorem atI_get {α : Type} {xs : List α} {i : Int} {v : α} (h : atI xs i = some v) : ∃ j, seqIndex? i xs.length = some j ∧ xs[j]? = some v ∧ j < xs.length ∧ -(xs.length : Int) ≤ i ∧ i < xs.length := by
  unfold atI at h
  cases e : ixN xs.length i with
  | none => rw [e] at h; cases h
  | some j =>
    rw [e] at h
    obtain ⟨h1, h2, h3, h4⟩ := ixN_seq e
    exact ⟨j, h1, h, h2, h3, h4⟩
theorem atI_nat {α : Type} {xs : List α} {j : Nat} {v : α} (h : xs[j]? = some v) : atI xs (j : Int) = some v := by
  have hj : j < xs.length := (List.getElem?_eq_some_iff.mp h).1
  have e : ixN xs.length (j : Int) = some j := by
    unfold ixN
    rw [if_pos (by omega), if_pos (by omega)]; simp
  unfold atI; rw [e]; exact h
noncomputable def PlainIx (b : Expr) : Prop := ∀ o i, subscripted b false o i = operate [o, i] (getItem o i)
noncomputable def IxR (X : Cx) (r : R2) : Prop :=
  ∀ (value slice : Expr) (pins : List (Addr × Obj)) (s : Shared) (σ : St) (H : Hp) (x y : V) (v u : Value) (Q : VK), Inv X pins σ H s → RelV x v → RelV y u → r x y H Q →
    subscripted slice false v u = operate [v, u] (getItem v u) → wpAny (model X.prog X.w) X.A (subscriptTail value slice v u) (EP X pins σ Q) X.xe s
noncomputable def MtR (X : Cx) (id : String) (r : V → List V → Hp → VK → Prop) : Prop :=
  ∀ (pins : List (Addr × Obj)) (s : Shared) (σ : St) (H : Hp) (x : V) (xs : List V) (v : Value) (us : List Value) (Q : VK), Inv X pins σ H s → RelV x v → Vals xs us → r x xs H Q →
    wpAny (model X.prog X.w) X.A (call (.builtin id) (v :: us)) (EP X pins σ Q) X.xe s
section
variable {X : Cx} {a b : Expr} {ta tb : TE} {pos : Pos}
theorem IxR.or {r r' : R2} (h : IxR X r) (h' : IxR X r') : IxR X (fun x y H Q => r x y H Q ∨ r' x y H Q) := by
  intro value slice pins s σ H x y v u Q I rx ry q hs
  rcases q with q | q
  · exact h value slice pins s σ H x y v u Q I rx ry q hs
  · exact h' value slice pins s σ H x y v u Q I rx ry q hs
theorem pe_ix {r : R2} (hr : IxR X r) (ha : PE X a ta) (hb : PE X b tb) (hs : PlainIx b) : PE X (.Subscript a b pos) (tOp r ta tb) := by
  intro pins s σ H Q I h
  exact Subscript_ (binT ha hb I h fun v u s2 x y H2 I2 rx ry q => hr a b pins s2 σ H2 x y v u Q I2 rx ry q (hs _ _))
noncomputable def rIxL (K : PySem.W.Frag) : R2 := fun x y H Q => ∃ p xs i v, x = .ref p ∧ y = .int i ∧ SqL K H p xs ∧ atI xs i = some v ∧ Q v H
noncomputable def rIxT (K : PySem.W.Frag) : R2 := fun x y H Q => ∃ p xs i v, x = .ref p ∧ y = .int i ∧ SqT K H p xs ∧ atI xs i = some v ∧ Q v H
noncomputable def rIxS : R2 := fun x y H Q => ∃ z i c, x = .str z ∧ y = .int i ∧ z.length ≤ sizeLine ∧ atI z.cps.toList i = some c ∧ Q (.str ⟨#[c]⟩) H
theorem ix_list : IxR X (rIxL X.K) := by
  intro value slice pins s σ H x y v u Q I rx ry h hs
  obtain ⟨p, xs, i, z, rfl, rfl, hq, he, q⟩ := h
  cases rx
  obtain ⟨t, rfl⟩ := ry
  obtain ⟨its, r, pl, hz⟩ := I.list hq
  obtain ⟨j, h1, h2, h3, h4, h5⟩ := atI_get he
  obtain ⟨w, ew, rw'⟩ := r.get h2
  have hl := r.length
  have hn := line63
  have fin : EP X pins σ Q w s := ⟨z, H, I, rw', q⟩
  by_cases h0 : 0 ≤ i
  · have hj : i.toNat = j := by
      rw [seqIndex_of h0 h5] at h1
      exact Option.some.inj h1
    exact item_listR pl.isList h0 (by omega) (by rw [hj]; simpa using ew) fin hs
  · have hj : (i + (its.toArray.size : Int)).toNat = j := by
      rw [seqIndex_neg (by omega) h4] at h1
      rw [List.size_toArray, ← hl]
      exact Option.some.inj h1
    exact subscriptTail_builtinR (x := w) pl.isList.typeIs slot_list_getitem.lookup
      (wpAny_getItem_list_neg (Q := fun r s' => r = w ∧ EP X pins σ Q r s') pl.isList (by omega) (by rw [List.size_toArray] <;> omega) (by omega) (by rw [hj]; simpa using ew) ⟨rfl, fin⟩) hs
theorem ix_tup : IxR X (rIxT X.K) := by
  intro value slice pins s σ H x y v u Q I rx ry h hs
  obtain ⟨p, xs, i, z, rfl, rfl, hq, he, q⟩ := h
  cases rx
  obtain ⟨t, rfl⟩ := ry
  obtain ⟨its, r, pl, hz⟩ := I.tuple hq
  obtain ⟨j, h1, h2, h3, h4, h5⟩ := atI_get he
  obtain ⟨w, ew, rw'⟩ := r.get h2
  have hl := r.length
  have hn := line63
  have fin : EP X pins σ Q w s := ⟨z, H, I, rw', q⟩
  exact subscriptTail_builtinR (x := w) pl.typeIs slot_tuple_getitem.lookup
    (getItem_tuple (j := j) (Q := fun r s' => r = w ∧ EP X pins σ Q r s') pl (by omega) (by omega) (by rw [List.size_toArray, ← hl]; exact h1) (by simpa using ew) ⟨rfl, fin⟩) hs
theorem ix_str : IxR X rIxS := by
  intro value slice pins s σ H x y v u Q I rx ry h hs
  obtain ⟨z, i, c, rfl, rfl, hz, he, q⟩ := h
  obtain ⟨t, rfl⟩ := rx
  obtain ⟨t', rfl⟩ := ry
  obtain ⟨j, h1, h2, h3, h4, h5⟩ := atI_get he
  have hl : z.cps.toList.length = z.length := by simp [Str.length]
  rw [hl] at h1 h4 h5
  have hn := line63
  exact tail_any (typeIs_str s z t) slot_str_getitem.lookup (getItem_str (c := c) (by
    have e1 : decide (i < -(2 ^ 63 : Int)) = false := decide_eq_false (by omega)
    have e2 : decide (i ≥ 2 ^ 63) = false := decide_eq_false (by omega)
    rw [e1, e2, Bool.or_false]) (by rw [h1]; simpa using h2) ⟨.str ⟨#[c]⟩, H, I.tok _, ⟨_, rfl⟩, q⟩) hs
noncomputable def rIx (K : PySem.W.Frag) : R2 := fun x y H Q => rIxL K x y H Q ∨ rIxT K x y H Q ∨ rIxS x y H Q
theorem ix_seq : IxR X (rIx X.K) := ix_list.or (ix_tup.or ix_str)
theorem mapSeq_set (its : List Value) (n j : Nat) (u : Value) : Obj.mapSeq (·.setIfInBounds j u) { cls := .type "list", data := .seq its.toArray n } = { cls := .type "list", data := .seq (its.set j u).toArray n } := by
  simp [Obj.mapSeq]
theorem Inv.lst {pins : List (Addr × Obj)} {σ : St} {H : Hp} {s : Shared} {p : Addr} {xs : List V} (I : Inv X pins σ H s) (h : H p = some (.lst xs)) :
    ∃ (its : List Value) (n : Nat), Vals xs its ∧ s.heap.get? p = some { cls := .type "list", data := .seq its.toArray n } ∧ xs.length ≤ sizeLine := by
  obtain ⟨z, its, n, r, e⟩ := I.hok p _ h
  exact ⟨its, n, r, e, z⟩
theorem Inv.lstUpd {pins : List (Addr × Obj)} {σ : St} {H : Hp} {s : Shared} {p : Addr} {xs ys : List V} {its its' : List Value} {n n' : Nat} {f : Obj → Obj} (I : Inv X pins σ H s) (h : H p = some (.lst xs))
    (ho : s.heap.get? p = some { cls := .type "list", data := .seq its.toArray n }) (hf : f { cls := .type "list", data := .seq its.toArray n } = { cls := .type "list", data := .seq its'.toArray n' }) (r : Vals ys its') (hz : ys.length ≤ sizeLine) (t : Nat) :
    Inv X pins σ (upd H p (.lst ys)) { s with heap := s.heap.update p f, toks := t } := by
  have e : (s.heap.update p f).get? p = some { cls := .type "list", data := .seq its'.toArray n' } := by
    rw [Heap.get?_update_self f ho (by rw [hf] <;> rfl), hf]
  refine I.write (x := p) (e := p) (by rw [h]; trivial) (.inl rfl) (fun b u hb q => (Heap.get?_update_other _ _ (Ne.symm hb)).trans q) ⟨_, e⟩ ?_
  exact ⟨hz, its', n', r, e⟩
noncomputable def rSetL : V → V → V → Hp → (Hp → Prop) → Prop := fun o i v H Q => ∃ p xs k j, o = .ref p ∧ i = .int k ∧ H p = some (.lst xs) ∧ ixN xs.length k = some j ∧ Q (upd H p (.lst (xs.set j v)))
theorem set_list : PSet X rSetL := by
  intro pins s σ H o i v ov iv u Q I ro ri rv h
  obtain ⟨p, xs, k, j, rfl, rfl, hp, hj, q⟩ := h
  cases ro
  obtain ⟨t, rfl⟩ := ri
  obtain ⟨its, n, r, ho, hz⟩ := I.lst hp
  obtain ⟨h1, h2, h3, h4⟩ := ixN_seq hj
  have hl := r.length
  have hn := line63
  have I' : Inv X pins σ (upd H p (.lst (xs.set j v))) { s with heap := s.heap.update p (Obj.mapSeq (·.setIfInBounds j u)) } :=
    I.lstUpd hp ho (mapSeq_set its n j u) (r.set rv j) (by rw [List.length_set]; exact hz) s.toks
  by_cases h0 : 0 ≤ k
  · have hk : k.toNat = j := by
      rw [seqIndex_of h0 h4] at h1
      exact Option.some.inj h1
    exact PySem.W.ki_setAt ho h0 (by omega) (by rw [List.size_toArray, ← hl]; exact h4) (by rw [hk]; exact ⟨_, I', q⟩)
  · have hk : (k + (its.toArray.size : Int)).toNat = j := by
      rw [seqIndex_neg (by omega) h3] at h1
      rw [List.size_toArray, ← hl]
      exact Option.some.inj h1
    exact PySem.W.ki_setBack ho (by omega) (by rw [List.size_toArray, ← hl]; exact h3) (by omega) (by rw [hk]; exact ⟨_, I', q⟩)
theorem slice_bounds (lo hi : Option Int) (n : Nat) : (sliceBounds lo hi none n).1 = ((HT.sIx n 0 lo : Nat) : Int) ∧ (sliceBounds lo hi none n).2.1 = ((HT.sIx n n hi : Nat) : Int) ∧ (sliceBounds lo hi none n).2.2 = 1 := by
  refine ⟨?_, ?_, rfl⟩
  · cases lo with
    | none => simp [sliceBounds, HT.sIx]
    | some i =>
      simp only [sliceBounds, HT.sIx, Option.getD_none, show (1 : Int) > 0 by decide, if_true]
      by_cases h : i < 0
      · simp only [h, if_true] <;> omega
      · simp only [h, if_false] <;> omega
  · cases hi with
    | none => simp [sliceBounds, HT.sIx]
    | some i =>
      simp only [sliceBounds, HT.sIx, Option.getD_none, show (1 : Int) > 0 by decide, if_true]
      by_cases h : i < 0
      · simp only [h, if_true] <;> omega
      · simp only [h, if_false] <;> omega
theorem slicePick_cut (its : List Value) (lo hi : Option Int) : slicePick its.toArray lo hi none = ((its.drop (HT.sIx its.length 0 lo)).take (HT.sIx its.length its.length hi - HT.sIx its.length 0 lo)).toArray := by
  obtain ⟨h1, h2, h3⟩ := slice_bounds lo hi its.toArray.size
  unfold slicePick
  rw [h1, h2, h3]
  simp only [sliceRange_one, pick_run, List.size_toArray] <;> rfl
noncomputable def rSlL (K : PySem.W.Frag) : V → Option Int → Option Int → Hp → VK → Prop := fun x lo hi H Q => ∃ a xs, x = .ref a ∧ SqL K H a xs ∧ ∀ p, H p = none → Q (.ref p) (upd H p (.lst (cutV xs lo hi)))
theorem sl_list : SlR X (rSlL X.K) := by
  intro pins s σ H x v vl vu lo hi sl Q I rx hs pl pu h
  obtain ⟨a, xs, rfl, hx, q⟩ := h
  cases rx
  obtain ⟨its, r, ht, hz⟩ := I.list hx
  have hlen := r.length
  refine ⟨"list", _, slot_list_getitem.lookup, ht.isList.typeIs, ?_⟩
  refine wpAny_getItem_list_slice ht.isList hs pl pu .none (by simp) ?_ (by rw [List.size_toArray] <;> omega)
  rw [slicePick_cut, ← hlen]
  refine ⟨.ref s.heap.objs.size, _, I.laid (t' := s.toks) (o := .lst (cutV xs lo hi)) (fun b ob q => Heap.get?_push_of_some _ q) (Nat.le_refl _) ?_, rfl, q _ (I.hok.fresh (Nat.le_refl _))⟩
  exact ⟨Nat.le_trans (cutV_length xs lo hi) hz, _, 0, (r.drop (HT.sIx xs.length 0 lo)).take (HT.sIx xs.length xs.length hi - HT.sIx xs.length 0 lo), Heap.get?_push_size _ rfl⟩
noncomputable def flatV : V → Bool
  | .non => true
  | .bl _ => true
  | .int _ => true
  | .str _ => true
  | _ => false
noncomputable def eqV : V → V → Bool
  | .non, .non => true
  | .bl a, .bl b => a == b
  | .bl a, .int b => (if a then 1 else 0) == b
  | .int a, .bl b => a == (if b then 1 else 0)
  | .int a, .int b => a == b
  | .str a, .str b => a == b
  | _, _ => false
theorem eqAt_V {A : Around} {s : Shared} {y x : V} {u v : Value} (ry : RelV y u) (rx : RelV x v) (fy : flatV y = true) (fx : flatV x = true) : SeqAt.EqAt A s u v (eqV y x) := by
  cases y with
  | non =>
    cases ry
    cases x with
    | non => cases rx; exact SeqAt.EqAt.same _
    | bl b => cases rx; exact SeqAt.EqAt.none_bool b
    | int b => obtain ⟨t, rfl⟩ := rx; exact SeqAt.EqAt.none_int b t
    | str b => obtain ⟨t, rfl⟩ := rx; exact SeqAt.EqAt.none_str b t
    | _ => exact absurd (show false = true from fx) Bool.false_ne_true
  | bl a =>
    cases ry
    cases x with
    | non => cases rx; exact SeqAt.EqAt.bool_none a
    | bl b => cases rx; exact SeqAt.EqAt.bool_bool a b
    | int b => obtain ⟨t, rfl⟩ := rx; exact SeqAt.EqAt.bool_int a b t
    | str b => obtain ⟨t, rfl⟩ := rx; exact SeqAt.EqAt.bool_str a b t
    | _ => exact absurd (show false = true from fx) Bool.false_ne_true
  | int a =>
    obtain ⟨t', rfl⟩ := ry
    cases x with
    | non => cases rx; exact SeqAt.EqAt.int_none a t'
    | bl b => cases rx; exact SeqAt.EqAt.int_bool a t' b
    | int b => obtain ⟨t, rfl⟩ := rx; exact SeqAt.EqAt.int_int a t' b t
    | str b => obtain ⟨t, rfl⟩ := rx; exact SeqAt.EqAt.int_str a t' b t
    | _ => exact absurd (show false = true from fx) Bool.false_ne_true
  | str a =>
    obtain ⟨t', rfl⟩ := ry
    cases x with
    | non => cases rx; exact SeqAt.EqAt.str_none a t'
    | bl b => cases rx; exact SeqAt.EqAt.str_bool a t' b
    | int b => obtain ⟨t, rfl⟩ := rx; exact SeqAt.EqAt.str_int a t' b t
    | str b => obtain ⟨t, rfl⟩ := rx; exact SeqAt.EqAt.str_str a t' b t
    | _ => exact absurd (show false = true from fx) Bool.false_ne_true
  | _ => exact absurd (show false = true from fy) Bool.false_ne_true
noncomputable def eqU (x : V) (u : Value) : Bool := match u with
  | .none => eqV .non x
  | .bool b => eqV (.bl b) x
  | .int i _ => eqV (.int i) x
  | .str z _ => eqV (.str z) x
  | _ => false
theorem eqU_of {x y : V} {u : Value} (r : RelV y u) (f : flatV y = true) : eqU x u = eqV y x := by
  cases y with
  | non => cases r; rfl
  | bl b => cases r; rfl
  | int i => obtain ⟨t, rfl⟩ := r; rfl
  | str z => obtain ⟨t, rfl⟩ := r; rfl
  | _ => exact absurd (show false = true from f) Bool.false_ne_true
theorem any_eqU {x : V} : ∀ {xs : List V} {us : List Value}, Vals xs us → xs.all flatV = true → us.any (eqU x) = xs.any fun y => eqV y x
  | _, _, .nil, _ => rfl
  | y :: xs, u :: us, .cons r t, f => by
    rw [List.all_cons, Bool.and_eq_true] at f
    rw [List.any_cons, List.any_cons, eqU_of r f.1, any_eqU t f.2]
theorem mem_eqAt {A : Around} {s : Shared} {x : V} {v : Value} (rx : RelV x v) (fx : flatV x = true) : ∀ {xs : List V} {us : List Value}, Vals xs us → xs.all flatV = true → ∀ u ∈ us, SeqAt.EqAt A s u v (eqU x u)
  | _, _, .nil, _ => fun u hu => by cases hu
  | y :: xs, u :: us, .cons r t, f => fun u' hu => by
    rw [List.all_cons, Bool.and_eq_true] at f
    rcases List.mem_cons.mp hu with rfl | hu
    · rw [eqU_of r f.1]; exact eqAt_V r rx f.1 fx
    · exact mem_eqAt rx fx t f.2 u' hu
noncomputable def inV (x : V) (xs : List V) : Bool := xs.any fun y => eqV y x
noncomputable def rIn (K : PySem.W.Frag) (neg : Bool) : R2 := fun x y H Q => ∃ p xs, y = .ref p ∧ (SqL K H p xs ∨ SqT K H p xs) ∧ flatV x = true ∧ xs.all flatV = true ∧ Q (.bl (if neg then !inV x xs else inV x xs)) H
theorem op_in_seq : OpR X (compareOp .In) (rIn X.K false) := by
  intro pins s σ H x y v u Q I rx ry h
  obtain ⟨p, xs, rfl, hq, fx, fs, q⟩ := h
  cases ry
  rcases hq with hq | hq
  · obtain ⟨its, r, pl, hz⟩ := I.list hq
    refine SeqAt.in_listAt (eqU x) pl.isList (fun w hw => mem_eqAt rx fx r fs w (by simpa using hw)) ⟨.bl _, H, I, rfl, ?_⟩
    rw [show its.toArray.any (eqU x) = its.any (eqU x) by simp, any_eqU r fs]
    exact q
  · obtain ⟨its, r, pl, hz⟩ := I.tuple hq
    refine SeqAt.in_tupleAt (eqU x) pl (fun w hw => mem_eqAt rx fx r fs w (by simpa using hw)) ⟨.bl _, H, I, rfl, ?_⟩
    rw [show its.toArray.any (eqU x) = its.any (eqU x) by simp, any_eqU r fs]
    exact q
theorem op_notIn_seq : OpR X (compareOp .NotIn) (rIn X.K true) := by
  intro pins s σ H x y v u Q I rx ry h
  obtain ⟨p, xs, rfl, hq, fx, fs, q⟩ := h
  cases ry
  rcases hq with hq | hq
  · obtain ⟨its, r, pl, hz⟩ := I.list hq
    refine SeqAt.notIn_listAt (eqU x) pl.isList (fun w hw => mem_eqAt rx fx r fs w (by simpa using hw)) ⟨.bl _, H, I, rfl, ?_⟩
    rw [show its.toArray.any (eqU x) = its.any (eqU x) by simp, any_eqU r fs]
    exact q
  · obtain ⟨its, r, pl, hz⟩ := I.tuple hq
    refine SeqAt.notIn_tupleAt (eqU x) pl (fun w hw => mem_eqAt rx fx r fs w (by simpa using hw)) ⟨.bl _, H, I, rfl, ?_⟩
    rw [show its.toArray.any (eqU x) = its.any (eqU x) by simp, any_eqU r fs]
    exact q
theorem op_notIn_str : OpR X (compareOp .NotIn) (fun x y H Q => ∃ i j, x = .str i ∧ y = .str j ∧ Q (.bl (!(!(Builtin.Str.occurrences j i 0 j.length 1).isEmpty))) H) := by
  intro pins s σ H x y v u Q I rx ry h
  obtain ⟨i, j, rfl, rfl, q⟩ := h
  obtain ⟨t, rfl⟩ := rx
  obtain ⟨t', rfl⟩ := ry
  exact notIn_str ⟨.bl _, H, I, rfl, q⟩
theorem CallR.or {f : Value} {r r' : List V → Hp → VK → Prop} (h : CallR X f r) (h' : CallR X f r') : CallR X f (fun xs H Q => r xs H Q ∨ r' xs H Q) := by
  intro pins s σ H xs us Q I rs q
  rcases q with q | q
  · exact h pins s σ H xs us Q I rs q
  · exact h' pins s σ H xs us Q I rs q
theorem call_list_of : CallR X (.type "list") (fun xs H Q => ∃ p ys, xs = [.ref p] ∧ (SqL X.K H p ys ∨ SqT X.K H p ys) ∧ ∀ l, H l = none → Q (.ref l) (upd H l (.lst ys))) := by
  intro pins s σ H xs us Q I r h
  obtain ⟨p, ys, rfl, hq, q⟩ := h
  obtain ⟨u, rfl, rx⟩ := vals1 r
  cases rx
  have fin : ∀ (its : List Value), Vals ys its → ys.length ≤ sizeLine → ∀ (h' : Heap) (c' : Nat), (∀ b o', s.heap.get? b = some o' → h'.get? b = some o') →
      h'.get? s.heap.objs.size = some { cls := .type "list", dict := none, data := .seq its.toArray c', slots := #[] } → EP X pins σ Q (.ref s.heap.objs.size) { s with heap := h' } := fun its r' hz h' c' kp e =>
    ⟨.ref s.heap.objs.size, _, I.laid (t' := s.toks) kp (Nat.le_refl _) (show ObjOk X.prog X.w _ h' _ (.lst ys) from ⟨hz, its, c', r', e⟩), rfl, q _ (I.hok.fresh (Nat.le_refl _))⟩
  rcases hq with hq | hq
  · obtain ⟨its, r', pl, hz⟩ := I.list hq
    have hlen := r'.length
    obtain ⟨o, ho, hc, n, hd⟩ := pl.isList
    exact call_list_seq p (.inl rfl) ho hc hd (fun h' c' kp e => fin its r' hz h' c' kp e) (by simp only [List.size_toArray] <;> omega)
  · obtain ⟨its, r', pl, hz⟩ := I.tuple hq
    have hlen := r'.length
    obtain ⟨o, ho, hc, n, hd⟩ := pl
    exact call_list_seq p (.inr rfl) ho hc hd (fun h' c' kp e => fin its r' hz h' c' kp e) (by simp only [List.size_toArray] <;> omega)
theorem call_tuple_of : CallR X (.type "tuple") (fun xs H Q => ∃ p ys, xs = [.ref p] ∧ ((SqL X.K H p ys ∧ ∀ l, H l = none → Q (.ref l) (upd H l (.tup ys))) ∨ (SqT X.K H p ys ∧ Q (.ref p) H))) := by
  intro pins s σ H xs us Q I r h
  obtain ⟨p, ys, rfl, h⟩ := h
  obtain ⟨u, rfl, rx⟩ := vals1 r
  cases rx
  rcases h with ⟨hq, q⟩ | ⟨hq, q⟩
  · obtain ⟨its, r', pl, hz⟩ := I.list hq
    have hlen := r'.length
    refine call_tuple_list pl.isList (fun h' kp => ?_) (by simp only [List.size_toArray] <;> omega)
    have I1 : Inv X pins σ H { s with heap := h' } := I.kept (t' := s.toks) kp
    have I2 : Inv X pins σ (upd H h'.objs.size (.tup ys)) { s with heap := h'.push { cls := .type "tuple", data := .seq its.toArray } } :=
      I1.laid (t' := s.toks) (fun b o e => Heap.get?_push_of_some _ e) (Nat.le_refl _) (show ObjOk X.prog X.w _ _ _ (.tup ys) from ⟨hz, its, r', IsTupN.new _ _⟩)
    exact ⟨.ref h'.objs.size, _, I2, rfl, q _ (I1.hok.fresh (Nat.le_refl _))⟩
  · obtain ⟨its, r', pl, hz⟩ := I.tuple hq
    exact call_tuple_same pl ⟨.ref p, H, I, rfl, q⟩
noncomputable def tyV (K : PySem.W.Frag) (T : String) (x : V) (H : Hp) : Prop := match x with
  | .str _ => T = "str"
  | .int _ => T = "int"
  | .ref p => (T = "list" ∧ ∃ xs, SqL K H p xs) ∨ (T = "tuple" ∧ ∃ o, K.lookup p = some o ∧ o.cls = .type "tuple" ∧ o.dict = none) ∨
      (T = "dict" ∧ ((∃ kvs, H p = some (.dK kvs)) ∨ ∃ kvs, H p = some (.dT kvs))) ∨ (T = "set" ∧ ∃ S n, H p = some (.set S n))
  | _ => False
theorem tyV_is {pins : List (Addr × Obj)} {σ : St} {H : Hp} {s : Shared} {T : String} {x : V} {v : Value} (I : Inv X pins σ H s) (r : RelV x v) (ty : tyV X.K T x H) :
    s.TypeIs v T ∧ ∀ a, v = .ref a → ∃ ob, s.heap.get? a = some ob ∧ ob.dict = none := by
  cases x with
  | str z =>
    obtain ⟨t, rfl⟩ := r
    cases (show T = "str" from ty)
    exact ⟨typeIs_str s z t, fun _ e => nomatch e⟩
  | int i =>
    obtain ⟨t, rfl⟩ := r
    cases (show T = "int" from ty)
    exact ⟨typeIs_int s i t, fun _ e => nomatch e⟩
  | ref p =>
    cases r
    rcases ty with ⟨rfl, xs, hq⟩ | ⟨rfl, o, hk, hc, hd⟩ | ⟨rfl, hk⟩ | ⟨rfl, S, n, hk⟩
    · obtain ⟨its, _, pl, _⟩ := I.list hq
      refine ⟨pl.isList.typeIs, fun a e => ?_⟩
      cases e
      obtain ⟨o, n, e, c, hd, _⟩ := pl
      exact ⟨o, e, hd⟩
    · refine ⟨⟨o, I.kIn p o hk, hc⟩, fun a e => ?_⟩
      cases e
      exact ⟨o, I.kIn _ o hk, hd⟩
    · have z : ∃ o, s.heap.get? p = some o ∧ o.ExactDict := by
        rcases hk with ⟨kvs, hk⟩ | ⟨kvs, hk⟩
        · obtain ⟨_, _, _, _, o, _, _, e, ex, _⟩ := I.hok p _ hk
          exact ⟨o, e, ex⟩
        · obtain ⟨_, _, _, _, o, _, _, e, ex, _⟩ := I.hok p _ hk
          exact ⟨o, e, ex⟩
      obtain ⟨o, e, ex⟩ := z
      refine ⟨⟨o, e, ex.1⟩, fun a e2 => ?_⟩
      cases e2
      exact ⟨o, e, ex.2.1⟩
    · obtain ⟨o, _, _, _, e, ex, _⟩ := I.hok p _ hk
      refine ⟨⟨o, e, ex.1⟩, fun a e2 => ?_⟩
      cases e2
      exact ⟨o, e, ex.2.1⟩
  | _ => exact False.elim ty
noncomputable def tBM (K : PySem.W.Frag) (T : String) (r : V → List V → Hp → VK → Prop) (to : TE) (t : TA) : TE := fun σ H Q => to σ H fun x H1 => tyV K T x H1 ∧ t σ H1 fun xs H2 => r x xs H2 Q
variable {o e : Expr} {es : List Expr} {to : TE} {t : TA} {name : Str} {apos cpos : Pos} {T id : String} {r : V → List V → Hp → VK → Prop}
theorem pe_bm (pa : PlainAttrs T) (slot : Slot T name id) (hty : typeOf (.builtin id) = pure (.type "method_descriptor")) (hm : MtR X id r) (ho : PE X o to) (ha : PA X (e :: es) t)
    (hbase : attributeBase o name X.env (eval o X.env) = eval o X.env := by with_unfolding_all rfl)
    (hfew : ((backTo cpos (starEach (e :: es) X.env)).all (fun x => !x.1) && (backToKw cpos (keywordEach [] X.env)).all (fun x => x.1.isSome)
      && decide ((e :: es).length + ([] : List Keyword).length + (if ([] : List Keyword).isEmpty then 0 else 1) < 30)) = true := by with_unfolding_all rfl)
    (hline : (apos.endLine == cpos.line) = true := by with_unfolding_all rfl) (hs : starEach (e :: es) X.env = (false, eval e X.env) :: starEach es X.env := by with_unfolding_all rfl) (hplain : (backTo cpos (starEach es X.env)).any (·.1) = false := by with_unfolding_all rfl) :
    PE X (.Call (.Attribute o name apos) (e :: es) [] cpos) (tBM X.K T r to t) := by
  intro pins s σ H Q I h
  refine wpAny_Call_method_late hbase hfew hline rfl (thn (ho pins s σ H _ I h) fun v s1 ⟨x, H1, I1, r1, ty, q1⟩ => ?_)
  obtain ⟨h1, h2⟩ := tyV_is I1 r1 ty
  refine ⟨T, id, pa, slot, hty, h1, h2, ?_⟩
  have hA := ha cpos pins s1 σ H1 _ I1 q1
  rw [hs] at hA ⊢
  refine Calls.callWith_builtin (by show (false || (backTo cpos (starEach es X.env)).any (·.1)) = false; rw [hplain] <;> rfl) (Calls.evalArgs_plain ?_)
  exact thn hA fun us s2 ⟨vs, H2, I2, r2, q2⟩ => hm pins s2 σ H2 x vs v us Q I2 r1 r2 q2
/- xs.append(e), list.index on a module's tuple .. are MtR facts of 06m -/
end
end L2
namespace L2
open PySem PySem.Spec PyProof.Rows
noncomputable def MtM (X : Cx) (id : String) (r : V → List V → Hp → VK → Prop) : Prop :=
  ∀ (pins : List (Addr × Obj)) (s : Shared) (σ : St) (H : Hp) (x : V) (xs : List V) (v : Value) (us : List Value) (Q : VK), Inv X pins σ H s → RelV x v → Vals xs us → r x xs H Q →
    wpAny (model X.prog X.w) X.A (call (.builtin id) (v :: us)) (EP X pins σ Q) X.xe s
theorem Vals.one {x : V} {us : List Value} (h : Vals [x] us) : ∃ u, us = [u] ∧ RelV x u := by
  cases h with
  | cons r q => cases q; exact ⟨_, rfl, r⟩
theorem Vals.two {x y : V} {us : List Value} (h : Vals [x, y] us) : ∃ u v, us = [u, v] ∧ RelV x u ∧ RelV y v := by
  cases h with
  | cons r q => obtain ⟨u, rfl, q'⟩ := Vals.one q; exact ⟨_, _, rfl, r, q'⟩
theorem Vals.eraseIdx : ∀ {xs : List V} {us : List Value} (i : Nat), Vals xs us → Vals (xs.eraseIdx i) (us.eraseIdx i)
  | _, _, _, .nil => .nil
  | _, _, 0, .cons _ t => t
  | _, _, i + 1, .cons r t => .cons r (Vals.eraseIdx i t)
theorem Vals.reverse {xs : List V} {us : List Value} (h : Vals xs us) : Vals xs.reverse us.reverse := by
  induction h with
  | nil => exact .nil
  | cons r t ih => rw [List.reverse_cons, List.reverse_cons]; exact Vals.append ih (.cons r .nil)
theorem Vals.rep {xs : List V} {us : List Value} (h : Vals xs us) : ∀ k : Nat, Vals (List.replicate k xs).flatten (List.replicate k us).flatten
  | 0 => .nil
  | k + 1 => by
    rw [List.replicate_succ, List.replicate_succ, List.flatten_cons, List.flatten_cons]
    exact Vals.append h (Vals.rep h k)
theorem len_erase {α : Type} : ∀ (l : List α) (i : Nat), (l.eraseIdx i).length ≤ l.length
  | [], _ => Nat.le_refl _
  | _ :: _, 0 => Nat.le_succ _
  | _ :: r, i + 1 => Nat.succ_le_succ (len_erase r i)
theorem foldl_rep (its : List Value) : ∀ (k : Nat) (acc : List Value),
    List.foldl (fun x1 x2 => x1 ++ x2) acc.toArray (List.replicate k its.toArray) = (acc ++ (List.replicate k its).flatten).toArray
  | 0, acc => by simp
  | k + 1, acc => by
    have e : acc.toArray ++ its.toArray = (acc ++ its).toArray := by simp
    have e2 : (acc ++ its) ++ (List.replicate k its).flatten = acc ++ (List.replicate (k + 1) its).flatten := by
      rw [List.replicate_succ, List.flatten_cons, List.append_assoc]
    rw [← e2, ← foldl_rep its k (acc ++ its), ← e, List.replicate_succ, List.foldl_cons]
section
variable {X : Cx} {pins : List (Addr × Obj)} {σ : St} {H : Hp} {s : Shared} {l b : Addr} {xs ys zs : List V}
theorem Inv.lset {its its' : List Value} {n : Nat} {f : Array Value → Array Value} {t' : Nat} (I : Inv X pins σ H s) (hH : H l = some (.lst xs))
    (e : s.heap.get? l = some { cls := .type "list", data := .seq its.toArray n }) (hf : f its.toArray = its'.toArray) (hv : Vals ys its') (hz : ys.length ≤ sizeLine) :
    Inv X pins σ (upd H l (.lst ys)) { s with heap := s.heap.update l (Obj.mapSeq f), toks := t' } := by
  have q := PySem.IsL.update e f
  rw [hf] at q
  refine I.write (x := l) (e := l) (by rw [hH]; exact trivial) (.inl rfl) (fun b' u hb hu => (Heap.get?_update_other s.heap (Obj.mapSeq f) (Ne.symm hb)).trans hu) ⟨_, q⟩ ?_
  exact ⟨hz, its', _, hv, q⟩
theorem Inv.lnew {its : List Value} {t' : Nat} (I : Inv X pins σ H s) (hv : Vals ys its) (hz : ys.length ≤ sizeLine) :
    Inv X pins σ (upd H s.heap.objs.size (.lst ys)) { s with heap := s.heap.push { cls := .type "list", data := .seq its.toArray }, toks := t' } :=
  I.laid (fun _ _ q => Heap.get?_push_of_some _ q) (Nat.le_refl _) ⟨hz, its, 0, hv, Heap.get?_push_size _ rfl⟩
theorem Inv.fresh (I : Inv X pins σ H s) : H s.heap.objs.size = none := I.hok.fresh (Nat.le_refl _)
theorem Inv.lstM (I : Inv X pins σ H s) (hH : H l = some (.lst xs)) : xs.length ≤ sizeLine ∧ ∃ (its : List Value) (n : Nat), Vals xs its ∧ xs.length = its.length ∧ s.heap.get? l = some { cls := .type "list", data := .seq its.toArray n } := by
  obtain ⟨z, its, n, r, e⟩ := I.hok l _ hH
  exact ⟨z, its, n, r, r.length, e⟩
theorem notLongL {n : Nat} (h : n ≤ sizeLine) : Builtin.List.listTooLong n = false := by
  unfold Builtin.List.listTooLong
  exact decide_eq_false (by omega)
end
section
variable {X : Cx}
noncomputable def rAppend : V → List V → Hp → VK → Prop := fun x vs H Q => ∃ l xs y, x = .ref l ∧ vs = [y] ∧ H l = some (.lst xs) ∧ xs.length < sizeLine ∧ Q .non (upd H l (.lst (xs ++ [y])))
theorem mt_append : MtM X "list.append" rAppend := by
  intro pins s σ H x vs v us Q I rx rv h
  obtain ⟨l, xs, y, rfl, rfl, hH, hz, q⟩ := h
  cases rx
  obtain ⟨u, rfl, ru⟩ := rv.one
  obtain ⟨z, its, n, r, hl, e⟩ := I.lstM hH
  refine call_meets F.slot_list_append ⟨_, e, rfl⟩ F.entry_list_append (F.args_list_append_2 _ _) (PySem.list_append l its.toArray n u (by rw [List.size_toArray]; omega)) ⟨e, ?_⟩
  refine ⟨.non, _, I.lset (its' := its ++ [u]) hH e (by simp) (r.append (.cons ru .nil)) ?_, rfl, q⟩
  rw [List.length_append, List.length_singleton]
  omega
noncomputable def rPopAt : V → List V → Hp → VK → Prop := fun x vs H Q => ∃ l xs i k y, x = .ref l ∧ vs = [.int i] ∧ H l = some (.lst xs) ∧ -(2 ^ 63) ≤ i ∧ i < 2 ^ 63 ∧ seqIndex? i xs.length = some k ∧ xs[k]? = some y ∧ Q y (upd H l (.lst (xs.eraseIdx k)))
theorem mt_popAt : MtM X "list.pop" rPopAt := by
  intro pins s σ H x vs v us Q I rx rv h
  obtain ⟨l, xs, i, k, y, rfl, rfl, hH, h1, h2, hk, hy, q⟩ := h
  cases rx
  obtain ⟨u, rfl, ru⟩ := rv.one
  obtain ⟨t, rfl⟩ := ru
  obtain ⟨z, its, n, r, hl, e⟩ := I.lstM hH
  obtain ⟨w, hw, rw'⟩ := r.get hy
  refine call_meets F.slot_list_pop ⟨_, e, rfl⟩ F.entry_list_pop (F.args_list_pop_2 _ _)
    (MeetsSeq.list_pop_at l its.toArray n i t k w (fitsIndex_both h1 h2) (by rw [List.size_toArray, ← hl]; exact hk) (by rw [← Array.getElem?_toList]; exact hw) (by rw [List.size_toArray]; omega)) ⟨e, ?_⟩
  refine ⟨y, _, I.lset (its' := its.eraseIdx k) hH e ?_ (r.eraseIdx k) ?_, rw', q⟩
  · show its.toArray.eraseIdxIfInBounds k = (its.eraseIdx k).toArray
    rw [List.eraseIdxIfInBounds_toArray]
  · have := len_erase xs k
    omega
noncomputable def rCat : R2 := fun x y H Q => ∃ l b xs zs, x = .ref l ∧ y = .ref b ∧ H l = some (.lst xs) ∧ H b = some (.lst zs) ∧ xs.length + zs.length ≤ sizeLine ∧ ∀ p, H p = none → Q (.ref p) (upd H p (.lst (xs ++ zs)))
theorem op_cat : OpR X (binaryOp .Add) rCat := by
  intro pins s σ H x y v u Q I rx ry h
  obtain ⟨l, b, xs, zs, rfl, rfl, hH, hB, hz, q⟩ := h
  cases rx
  cases ry
  obtain ⟨z, its, n, r, hl, e⟩ := I.lstM hH
  obtain ⟨z2, its2, n2, r2, hl2, e2⟩ := I.lstM hB
  refine PySem.P.add_list e e2 ?_ (by rw [List.size_toArray, List.size_toArray]; omega)
  have ea : its.toArray ++ its2.toArray = (its ++ its2).toArray := by simp
  rw [ea]
  exact ⟨.ref _, _, I.lnew (t' := s.toks) (r.append r2) (by rw [List.length_append]; omega), rfl, q _ I.fresh⟩
noncomputable def rRep : R2 := fun x y H Q => ∃ l k xs, x = .ref l ∧ y = .int k ∧ H l = some (.lst xs) ∧ -(2 ^ 63) ≤ k ∧ k < 2 ^ 63 ∧ xs.length * k.toNat ≤ sizeLine ∧
  ∀ p, H p = none → Q (.ref p) (upd H p (.lst (List.replicate k.toNat xs).flatten))
theorem len_rep {α : Type} (xs : List α) (k : Nat) : (List.replicate k xs).flatten.length = k * xs.length := by
  induction k with
  | zero => simp
  | succ k ih => rw [List.replicate_succ, List.flatten_cons, List.length_append, ih, Nat.succ_mul, Nat.add_comm]
theorem op_rep : OpR X (binaryOp .Mult) rRep := by
  intro pins s σ H x y v u Q I rx ry h
  obtain ⟨l, k, xs, rfl, rfl, hH, h1, h2, hz, q⟩ := h
  cases rx
  obtain ⟨t, rfl⟩ := ry
  obtain ⟨z, its, n, r, hl, e⟩ := I.lstM hH
  have hlen : its.toArray.size * k.toNat ≤ sizeLine := by rw [List.size_toArray, ← hl]; exact hz
  have hcap : ¬ its.toArray.size * k.toNat > (2 ^ 63 - 1) / 8 := by
    have : (sizeLine : Nat) ≤ (2 ^ 63 - 1) / 8 := by decide
    omega
  have hfit : ¬ (!Builtin.List.listFitsIndex k) = true := by
    rw [fitsIndex_both h1 h2]
    exact Bool.false_ne_true
  have hlong : ¬ Builtin.List.listTooLong (its.toArray.size * k.toNat) = true := by
    rw [notLongL hlen]
    exact Bool.false_ne_true
  have hnew : List.foldl (fun x1 x2 => x1 ++ x2) #[] (List.replicate (if its.toArray.isEmpty = true then 0 else k.toNat) its.toArray) = (List.replicate k.toNat its).flatten.toArray := by
    have f0 : ∀ m : Nat, List.foldl (fun x1 x2 => x1 ++ x2) #[] (List.replicate m its.toArray) = (List.replicate m its).flatten.toArray := fun m => by
      have := foldl_rep its m []
      rw [List.nil_append] at this
      exact this
    rw [f0]
    cases its with
    | nil => simp
    | cons a r' => rw [if_neg (by simp)]
  refine wpAny_binaryOp_repeat_ref (T := "list") (U := "int") (by decide) ⟨_, e, rfl⟩ (fun s' => typeIs_int s' k t) noFill_list_mul F.fills_int_mul F.slot_int_rmul repeat_list F.slot_int_index.lookup
    (call_meets F.slot_int_rmul (typeIs_int s k t) F.entry_int_rmul (F.args_int_rmul_2 _ _) (int___rmul___int_list k t l its.toArray n)
      ⟨e, rfl, ⟨_, e, rfl⟩, call_meets F.slot_list_mul ⟨_, e, rfl⟩ F.entry_list_mul (F.args_list_mul_2 _ _) (AutoListH.list___mul___list_int_3 l its.toArray n k t hfit hcap hlong) ⟨e, ?_⟩⟩)
  rw [hnew]
  exact ⟨.ref _, _, I.lnew (t' := s.toks) (r.rep k.toNat) (by rw [len_rep, Nat.mul_comm]; exact hz), rfl, q _ I.fresh⟩
end
section
variable {prog : Program} {w : World} {A : Around} {E : Value → Shared → Prop} {s : Shared}
theorem splice_eq (its its2 : List Value) (a c : Nat) : its.toArray.extract 0 a ++ its2.toArray ++ its.toArray.extract c its.toArray.size = (its.take a ++ its2 ++ its.drop c).toArray := by
  apply Array.toList_inj.mp
  first
    | (simp
       exact List.take_of_length_le (by simp))
    | simp [List.take_of_length_le]
    | simp
set_option maxRecDepth 100000 in
end
section
variable {X : Cx}
end
end L2
namespace L2
open PySem PySem.Spec PyProof.Rows
section
variable {κ : Type} [DecidableEq κ]
noncomputable def valV (kvs : List (κ × V)) (k : κ) : Option V := (kvs.find? fun kv => decide (kv.1 = k)).map (·.2)
noncomputable def putK (kvs : List (κ × V)) (k : κ) (v : V) : List (κ × V) :=
  if (kvs.any fun kv => decide (kv.1 = k)) = true then kvs.map (fun kv => if kv.1 = k then (kv.1, v) else kv) else kvs ++ [(k, v)]
theorem valV_pos {p : κ × V} {r : List (κ × V)} {k : κ} (e : p.1 = k) : valV (p :: r) k = some p.2 := by simp [valV, List.find?_cons, e]
theorem valV_neg {p : κ × V} {r : List (κ × V)} {k : κ} (e : ¬ p.1 = k) : valV (p :: r) k = valV r k := by simp [valV, List.find?_cons, e]
theorem valV_any (k : κ) : ∀ kvs : List (κ × V), (kvs.any fun kv => decide (kv.1 = k)) = (valV kvs k).isSome
  | [] => rfl
  | p :: r => by
    rw [List.any_cons]
    by_cases e : p.1 = k
    · simp only [valV_pos e, decide_eq_true e, Bool.true_or, Option.isSome_some]
    · rw [valV_neg e, decide_eq_false e, Bool.false_or]; exact valV_any k r
theorem length_putK (kvs : List (κ × V)) (k : κ) (v : V) : (putK kvs k v).length ≤ kvs.length + 1 := by
  unfold putK
  split
  · rw [List.length_map]; omega
  · rw [List.length_append, List.length_cons, List.length_nil]; omega
theorem RelO.isSome_eq {o : Option V} {u : Option Value} (r : RelO o u) : o.isSome = u.isSome := by
  cases o with
  | none => cases u with
    | none => rfl
    | some _ => exact (show False from r).elim
  | some _ => cases u with
    | none => exact (show False from r).elim
    | some _ => rfl
theorem KV.val {kvs : List (κ × V)} {vs : List (κ × Value)} (r : KV kvs vs) (k : κ) : RelO (valV kvs k) (valueAt vs k) := by
  unfold KV at r
  induction r with
  | nil => exact True.intro
  | @cons p q ps qs h t ih =>
    obtain ⟨h1, h2⟩ := h
    by_cases e : p.1 = k
    · have e' : q.1 = k := h1.symm.trans e
      have b : valueAt (q :: qs) k = some q.2 := by simp [valueAt, List.find?_cons, e']
      rw [valV_pos e, b]; exact h2
    · have e' : ¬ q.1 = k := fun z => e (h1.trans z)
      have b : valueAt (q :: qs) k = valueAt qs k := by simp [valueAt, List.find?_cons, e']
      rw [valV_neg e, b]; exact ih
theorem KV.any {kvs : List (κ × V)} {vs : List (κ × Value)} (r : KV kvs vs) (k : κ) : (kvs.any fun kv => decide (kv.1 = k)) = vs.any fun kv => decide (kv.1 = k) := by
  unfold KV at r
  induction r with
  | nil => rfl
  | cons h t ih => rw [List.any_cons, List.any_cons, ih, h.1]
theorem KV.repl {kvs : List (κ × V)} {vs : List (κ × Value)} (r : KV kvs vs) (k : κ) {y : V} {u : Value} (ry : RelV y u) :
    KV (kvs.map fun kv => if kv.1 = k then (kv.1, y) else kv) (vs.map fun kv => if kv.1 = k then (kv.1, u) else kv) := by
  unfold KV at r ⊢
  induction r with
  | nil => exact .nil
  | @cons p q ps qs h t ih =>
    rw [List.map_cons, List.map_cons]
    refine .cons ?_ ih
    obtain ⟨h1, h2⟩ := h
    by_cases e : p.1 = k
    · rw [if_pos e, if_pos (h1.symm.trans e)]; exact ⟨h1, ry⟩
    · rw [if_neg e, if_neg (fun z => e (h1.trans z))]; exact ⟨h1, h2⟩
theorem KV.put {kvs : List (κ × V)} {vs : List (κ × Value)} (r : KV kvs vs) (k : κ) {y : V} {u : Value} (ry : RelV y u) : KV (putK kvs k y) (stored vs k u) := by
  unfold putK stored
  rw [r.any k]
  by_cases e : (vs.any fun kv => decide (kv.1 = k)) = true
  · rw [if_pos e, if_pos e]; exact r.repl k ry
  · rw [if_neg e, if_neg e]; exact Paired.snoc r ⟨rfl, ry⟩
theorem KV.length {kvs : List (κ × V)} {vs : List (κ × Value)} (r : KV kvs vs) : kvs.length = vs.length := Paired.length r
end
theorem kV_is {P : Program} {w : World} {k : Key} {u : Value} (r : RelV (kV k) u) : (mixKind P w).is k u = true := by
  cases k with
  | inl i => obtain ⟨t, e⟩ := (show ∃ t, u = Value.int i t from r); subst e; exact mixKind_int P w i t
  | inr x => obtain ⟨t, e⟩ := (show ∃ t, u = Value.str x t from r); subst e; exact mixKind_str P w x t
theorem items_are {P : Program} {w : World} : ∀ {ks : List Key} {us : List Value}, Vals (ks.map kV) us → ItemsAre (mixKind P w) ks us
  | [], _, r => by rw [List.map_nil] at r; cases r; exact .nil
  | k :: ks, _, r => by
    rw [List.map_cons] at r
    cases r with
    | cons h t => exact .cons (kV_is h) (items_are t)
noncomputable abbrev KT (H : Hp) : List (List Key × V) → List (List Key × Addr × Value) → Prop := Paired fun p q => p.1 = q.1 ∧ H q.2.1 = some (.tup (p.1.map kV)) ∧ RelV p.2 q.2.2
theorem KT.val {H : Hp} {kvs : List (List Key × V)} {xs : List (List Key × Addr × Value)} (r : KT H kvs xs) (k : List Key) : RelO (valV kvs k) ((atKey xs k).map (·.2)) := by
  induction r with
  | nil => exact True.intro
  | @cons p q ps qs h t ih =>
    obtain ⟨h1, _, h2⟩ := h
    by_cases e : p.1 = k
    · have e' : q.1 = k := h1.symm.trans e
      have b : atKey (q :: qs) k = some q.2 := by simp [atKey, List.find?_cons, e']
      rw [valV_pos e, b]; exact h2
    · have e' : ¬ q.1 = k := fun z => e (h1.trans z)
      have b : atKey (q :: qs) k = atKey qs k := by simp [atKey, List.find?_cons, e']
      rw [valV_neg e, b]; exact ih
theorem KT.repl {H : Hp} {kvs : List (List Key × V)} {xs : List (List Key × Addr × Value)} (r : KT H kvs xs) (k : List Key) {y : V} {u : Value} (ry : RelV y u) :
    KT H (kvs.map fun kv => if kv.1 = k then (kv.1, y) else kv) (xs.map (putAt k u)) := by
  induction r with
  | nil => exact .nil
  | @cons p q ps qs h t ih =>
    rw [List.map_cons, List.map_cons]
    refine .cons ?_ ih
    obtain ⟨h1, h2, h3⟩ := h
    unfold putAt
    by_cases e : p.1 = k
    · rw [if_pos e, if_pos (h1.symm.trans e)]; exact ⟨h1, h2, ry⟩
    · rw [if_neg e, if_neg (fun z => e (h1.trans z))]; exact ⟨h1, h2, h3⟩
theorem KT.put {H : Hp} {kvs : List (List Key × V)} {xs : List (List Key × Addr × Value)} (r : KT H kvs xs) (k : List Key) {b : Addr} {y : V} {u : Value} (hb : H b = some (.tup (k.map kV))) (ry : RelV y u) :
    KT H (putK kvs k y) (storedH xs k b u) := by
  have e : (kvs.any fun kv => decide (kv.1 = k)) = (atKey xs k).isSome := by
    rw [valV_any, (r.val k).isSome_eq, Option.isSome_map]
  unfold putK storedH
  rw [e]
  by_cases q : (atKey xs k).isSome = true
  · rw [if_pos q, if_pos q]; exact r.repl k ry
  · rw [if_neg q, if_neg q]; exact Paired.snoc r ⟨rfl, hb, ry⟩
theorem KT.keeps {H H' : Hp} {kvs : List (List Key × V)} {xs : List (List Key × Addr × Value)} (r : KT H kvs xs) (ht : ∀ b ys, H b = some (.tup ys) → H' b = some (.tup ys)) : KT H' kvs xs :=
  Paired.mapP r fun _ _ z => ⟨z.1, ht _ _ z.2.1, z.2.2⟩
section
variable {P : Program} {w : World} {H : Hp} {h : Heap} {a : Addr}
theorem rd_of {u : HO} (ok : HOk P w H h) (e : Rd H a u) : ObjOk P w H h a u := e.ok ok
theorem dk_rd {kvs : List (Key × V)} (ok : HOk P w H h) (e : Rd H a (.dK kvs)) : kvs.length ≤ sizeLine ∧ (a == sysModules) = false ∧ ∃ vs, KV kvs vs ∧ h.DictOf (mixKind P w) a vs :=
  show ObjOk P w H h a (.dK kvs) from rd_of ok e
theorem dk_of {kvs : List (Key × V)} (ok : HOk P w H h) (e : H a = some (.dK kvs)) : kvs.length ≤ sizeLine ∧ (a == sysModules) = false ∧ ∃ vs, KV kvs vs ∧ h.DictOf (mixKind P w) a vs := dk_rd ok (.inl e)
theorem key_of {ks : List Key} (ok : HOk P w H h) (e : H a = some (.tup (ks.map kV))) : (tupleKind (mixKind P w)).is h ks a := by
  obtain ⟨_, its, r, o, h1, h2, ⟨n, h3⟩, _⟩ := (show ObjOk P w H h a (.tup (ks.map kV)) from ok a _ e)
  exact ⟨o, its.toArray, n, h1, h2, h3, by simpa using items_are r⟩
theorem dt_rd {kvs : List (List Key × V)} (ok : HOk P w H h) (e : Rd H a (.dT kvs)) : kvs.length ≤ sizeLine ∧ (a == sysModules) = false ∧
    ∃ xs, KT H kvs xs ∧ h.DictOfH (tupleKind (mixKind P w)) a xs := by
  obtain ⟨z, y, xs, r, o, es, ep, h1, h2, h3, h4, h5⟩ := (show ObjOk P w H h a (.dT kvs) from rd_of ok e)
  refine ⟨z, y, xs, r, o, es, ep, h1, h2, h3, h4, fun x hx => ?_, h5⟩
  have all : ∀ {l : List (List Key × V)} {m : List (List Key × Addr × Value)}, KT H l m → ∀ x ∈ m, (tupleKind (mixKind P w)).is h x.1 x.2.1 := by
    intro l m q
    induction q with
    | nil => intro x hx; exact nomatch hx
    | @cons p q ps qs hq t ih =>
      intro x hx
      rcases List.mem_cons.mp hx with e | hx
      · subst e
        exact key_of ok (by rw [← hq.1]; exact hq.2.1)
      · exact ih x hx
  exact all r x hx
theorem dt_of {kvs : List (List Key × V)} (ok : HOk P w H h) (e : H a = some (.dT kvs)) : kvs.length ≤ sizeLine ∧ (a == sysModules) = false ∧
    ∃ xs, KT H kvs xs ∧ h.DictOfH (tupleKind (mixKind P w)) a xs := dt_rd ok (.inl e)
end
noncomputable def DGet (H : Hp) (a : Addr) (y : V) (r : Option V) : Prop :=
  (∃ kvs k, Rd H a (.dK kvs) ∧ y = kV k ∧ r = valV kvs k) ∨ ∃ kvs k b, Rd H a (.dT kvs) ∧ y = .ref b ∧ H b = some (.tup (k.map kV)) ∧ r = valV kvs k
noncomputable def DPut (H : Hp) (a : Addr) (y v : V) (H' : Hp) : Prop :=
  (∃ kvs k, H a = some (.dK kvs) ∧ y = kV k ∧ kvs.length < sizeLine ∧ H' = upd H a (.dK (putK kvs k v))) ∨
  ∃ kvs k b, H a = some (.dT kvs) ∧ y = .ref b ∧ H b = some (.tup (k.map kV)) ∧ kvs.length < sizeLine ∧ H' = upd H a (.dT (putK kvs k v))
theorem DGet.k {H : Hp} {a : Addr} {kvs : List (Key × V)} {k : Key} (e : H a = some (.dK kvs)) : DGet H a (kV k) (valV kvs k) := .inl ⟨kvs, k, .inl e, rfl, rfl⟩
theorem DPut.k {H : Hp} {a : Addr} {kvs : List (Key × V)} {k : Key} {v : V} (e : H a = some (.dK kvs)) (hl : kvs.length < sizeLine) : DPut H a (kV k) v (upd H a (.dK (putK kvs k v))) := .inl ⟨kvs, k, e, rfl, hl, rfl⟩
section
variable {X : Cx} {pins : List (Addr × Obj)} {σ : St} {H : Hp} {s : Shared} {a : Addr} {y v : V} {u r : Value} {o : Option V} {A : Around} {E : Value → Shared → Prop}
theorem Inv.big (I : Inv X pins σ H s) : sysModules < s.heap.objs.size := by
  have h : mainGlobals < s.heap.objs.size := (I.mod.glob.keeps I.bk).lt
  exact Nat.lt_trans (by decide) h
theorem d_getItem {Q : Value → Shared → Prop} (hu : A.units + 1 < cLine) (I : Inv X pins σ H s) (g : DGet H a y (some v)) (ry : RelV y u) (h : ∀ w' s', Inv X pins σ H s' → RelV v w' → Q w' s') :
    wpAny (model X.prog X.w) A (getItem (.ref a) u) Q E s := by
  rcases g with ⟨kvs, k, e, ey, l⟩ | ⟨kvs, k, b, e, ey, eb, l⟩
  · subst ey
    obtain ⟨z, hd, vs, rel, dd⟩ := dk_rd I.hok e
    obtain ⟨w', hw, rw'⟩ := RelO.some_of (v := v) (o := valueAt vs k) (by rw [l]; exact rel.val k)
    exact wpAny_getItem_of (kV_is ry) dd.mapOf hw (h w' _ (I.tok _) rw')
  · subst ey
    cases (show u = Value.ref b from ry)
    obtain ⟨z, hd, xs, rel, dd⟩ := dt_rd I.hok e
    obtain ⟨w', hw, rw'⟩ := RelO.some_of (v := v) (o := (atKey xs k).map (·.2)) (by rw [l]; exact rel.val k)
    obtain ⟨p, hp, hp2⟩ := Option.map_eq_some_iff.mp hw
    refine wpAny_getItem_heap (tupleKind_room_in1 hu) (key_of I.hok eb) dd hp ?_
    rw [hp2]
    exact h w' _ (I.tok _) rw'
theorem d_in {Q : Value → Shared → Prop} (hu : A.units + 1 < cLine) (I : Inv X pins σ H s) (g : DGet H a y o) (ry : RelV y u) (h : ∀ s', Inv X pins σ H s' → Q (.bool o.isSome) s') :
    wpAny (model X.prog X.w) A (compareOp .In u (.ref a)) Q E s := by
  rcases g with ⟨kvs, k, e, ey, l⟩ | ⟨kvs, k, b, e, ey, eb, l⟩
  · subst ey
    obtain ⟨z, hd, vs, rel, dd⟩ := dk_rd I.hok e
    refine wpAny_in_of (kV_is ry) hd dd.mapOf ?_
    rw [← (rel.val k).isSome_eq, ← l]
    exact h _ (I.tok _)
  · subst ey
    cases (show u = Value.ref b from ry)
    obtain ⟨z, hd, xs, rel, dd⟩ := dt_rd I.hok e
    refine wpAny_in_heap (tupleKind_room_in1 hu) (key_of I.hok eb) hd dd ?_
    have q := (rel.val k).isSome_eq
    rw [Option.isSome_map] at q
    rw [← q, ← l]
    exact h _ (I.tok _)
theorem d_notIn {Q : Value → Shared → Prop} (hu : A.units + 1 < cLine) (I : Inv X pins σ H s) (g : DGet H a y o) (ry : RelV y u) (h : ∀ s', Inv X pins σ H s' → Q (.bool (!o.isSome)) s') :
    wpAny (model X.prog X.w) A (compareOp .NotIn u (.ref a)) Q E s := by
  rcases g with ⟨kvs, k, e, ey, l⟩ | ⟨kvs, k, b, e, ey, eb, l⟩
  · subst ey
    obtain ⟨z, hd, vs, rel, dd⟩ := dk_rd I.hok e
    refine wpAny_notIn_of (kV_is ry) hd dd.mapOf ?_
    rw [← (rel.val k).isSome_eq, ← l]
    exact h _ (I.tok _)
  · subst ey
    cases (show u = Value.ref b from ry)
    obtain ⟨z, hd, xs, rel, dd⟩ := dt_rd I.hok e
    refine wpAny_notIn_heap (tupleKind_room_in1 hu) (key_of I.hok eb) hd dd ?_
    have q := (rel.val k).isSome_eq
    rw [Option.isSome_map] at q
    rw [← q, ← l]
    exact h _ (I.tok _)
theorem d_write {h' : Heap} {t' : Nat} {ob : HO} (I : Inv X pins σ H s) (mu : Mut (H a)) (hs : Heap.SameBut a s.heap h') (he : ∃ q, h'.get? a = some q) (new : ObjOk X.prog X.w (upd H a ob) h' a ob) :
    Inv X pins σ (upd H a ob) { s with heap := h', toks := t' } :=
  I.write (x := a) (e := a) mu (.inl rfl) (fun b q hb z => (hs.2 b hb).trans z) he new
theorem dk_new {P : Program} {w : World} {H' : Hp} {h' : Heap} {kvs : List (Key × V)} {vs : List (Key × Value)} (z : kvs.length ≤ sizeLine) (hd : (a == sysModules) = false) (rel : KV kvs vs) (dd : h'.DictOf (mixKind P w) a vs) :
    ObjOk P w H' h' a (.dK kvs) := ⟨z, hd, vs, rel, dd⟩
theorem d_setItem {H' : Hp} {Q : Unit → Shared → Prop} (hu : A.units + 1 < cLine) (I : Inv X pins σ H s) (g : DPut H a y v H') (ry : RelV y u) (rv : RelV v r) (h : ∀ s', Inv X pins σ H' s' → Q () s') :
    wpAny (model X.prog X.w) A (setItem (.ref a) u r) Q E s := by
  rcases g with ⟨kvs, k, e, ey, l, eH⟩ | ⟨kvs, k, b, e, ey, eb, l, eH⟩
  · subst ey eH
    obtain ⟨z, hd, vs, rel, dd⟩ := dk_of I.hok e
    have hz : vs.length ≤ sizeLine := by rw [← rel.length]; exact z
    have hl : (putK kvs k v).length ≤ sizeLine := by have := length_putK kvs k v; omega
    refine wpAny_setItem_pairs (hsz := hz) (kV_is ry) dd fun h' dd' hs => h _ ?_
    have he : ∃ q, h'.get? a = some q := let ⟨q, _, _, hq, _⟩ := dd'; ⟨q, hq⟩
    exact d_write I (by rw [e]; exact True.intro) hs he (dk_new hl hd (rel.put k rv) dd')
  · subst ey eH
    cases (show u = Value.ref b from ry)
    obtain ⟨z, hd, xs, rel, dd⟩ := dt_of I.hok e
    have hz : xs.length ≤ sizeLine := by rw [← Paired.length rel]; exact z
    have hl : (putK kvs k v).length ≤ sizeLine := by have := length_putK kvs k v; omega
    refine wpAny_setItem_heap (hsz := hz) (tupleKind_room_in1 hu) (key_of I.hok eb) dd fun h' dd' hs => h _ ?_
    obtain ⟨q, es, ep, hq, h2, h3, h4, _, h5⟩ := dd'
    refine d_write I (by rw [e]; exact True.intro) hs ⟨q, hq⟩ ⟨hl, hd, _, (rel.put k eb rv).keeps fun c ys ec => ?_, q, es, ep, hq, h2, h3, h4, h5⟩
    rw [upd_ne (ne_of ec e (fun z => nomatch z))]
    exact ec
end
section
variable {X : Cx} {pins : List (Addr × Obj)} {σ : St} {H : Hp} {s : Shared} {a : Addr} {kvs : List (Key × V)} {k : Key} {u : Value} {A : Around} {E : Value → Shared → Prop}
theorem d_len {Q : Value → Shared → Prop} (I : Inv X pins σ H s) (e : Rd H a (.dK kvs)) (h : ∀ t s', Inv X pins σ H s' → Q (.int kvs.length t) s') : wpAny (model X.prog X.w) A (call (.builtin "len") [.ref a]) Q E s := by
  obtain ⟨z, hd, vs, rel, dd⟩ := dk_rd I.hok e
  refine call_len_dict hd dd (by rw [← rel.length]; rw [sizeLine_eq] at z; omega) ?_
  rw [← rel.length]
  exact h _ _ (I.tok _)
end
theorem dict_typeIs {X : Cx} {pins : List (Addr × Obj)} {σ : St} {H : Hp} {s : Shared} {a : Addr} {y : V} {o : Option V} (I : Inv X pins σ H s) (g : DGet H a y o) : s.TypeIs (.ref a) "dict" := by
  rcases g with ⟨kvs, k, e, _, _⟩ | ⟨kvs, k, b, e, _, _, _⟩
  · obtain ⟨_, _, vs, _, dd⟩ := dk_rd I.hok e
    exact dd.typeIs
  · obtain ⟨_, _, xs, _, dd⟩ := dt_rd I.hok e
    exact dd.typeIs
noncomputable def sDPut (td ty tv : TE) : TS := fun D σ H => tv σ H fun v H1 => td σ H1 fun x H2 => ty σ H2 fun y H3 => ∃ a H4, x = .ref a ∧ DPut H3 a y v H4 ∧ D.nx σ H4
section
variable {X : Cx} {o i e value : Expr} {pos pos' tpos : Pos} {td ty tv : TE}
theorem ps_dput (hu : X.A.units + 1 < cLine) (ho : PE X o td) (hi : PE X i ty) (hv : PE X value tv) (hs : swapsWith value (some (.Subscript o i pos')) pos.line X.env = pure false) :
    PS X (.Assign [.Subscript o i pos'] value pos) (sDPut td ty tv) := by
  intro pins s σ H D I h
  refine wpAny_Assign_Subscript (thn (hv pins s σ H _ I h) fun r s1 ⟨v, H1, I1, rv, q1⟩ => thn (ho pins s1 σ H1 _ I1 q1) fun u s2 ⟨x, H2, I2, rx, q2⟩ => thn (hi pins s2 σ H2 _ I2 q2) fun iv s3 ⟨y, H3, I3, ry, a, H4, ex, g, q3⟩ => ?_) hs
  subst ex
  obtain rfl : u = Value.ref a := rx
  exact d_setItem hu I3 g ry rv fun s4 I4 => ⟨σ, H4, I4, q3⟩
end
theorem dk_empty {P : Program} {w : World} {H : Hp} (h : Heap) (hb : sysModules < h.objs.size) : ObjOk P w H (h.push { cls := .type "dict", data := .dict #[] }) h.objs.size (.dK []) :=
  ⟨Nat.zero_le _, beq_eq_false_iff_ne.mpr (Ne.symm (Nat.ne_of_lt hb)), [], .nil, Heap.DictOf.new h⟩
noncomputable def tDNewK : TE := fun _ H Q => ∀ p, H p = none → Q (.ref p) (upd H p (.dK []))
section
variable {X : Cx} {pos : Pos}
theorem pe_dnewK : PE X (.Dict [] [] pos) tDNewK := fun pins s σ H Q I h =>
  wpAny_Dict_empty ⟨.ref s.heap.objs.size, _, I.laid (a := s.heap.objs.size) (o := .dK []) (t' := s.toks) (fun _ _ q => Heap.get?_push_of_some _ q) (Nat.le_refl _) (dk_empty s.heap I.big), rfl, h _ (I.hok.fresh (Nat.le_refl _))⟩
end
noncomputable def tPairs : List (TE × TE) → St → Hp → (List (V × V) → Hp → Prop) → Prop
  | [], _, H, Q => Q [] H
  | (tk, tv) :: r, σ, H, Q => tk σ H fun x H1 => tv σ H1 fun y H2 => tPairs r σ H2 fun ps H3 => Q ((x, y) :: ps) H3
noncomputable abbrev VV : List (V × V) → List (Value × Value) → Prop := Paired fun p q => RelV p.1 q.1 ∧ RelV p.2 q.2
noncomputable def PPs (X : Cx) (pos : Pos) (keys : List (Option Expr)) (values : List Expr) (trs : List (TE × TE)) : Prop :=
  ∀ (pins : List (Addr × Obj)) (s : Shared) (σ : St) (H : Hp) (Q : List (V × V) → Hp → Prop), Inv X pins σ H s → tPairs trs σ H Q →
    wpAny (model X.prog X.w) X.A (evalPairs (pairTrees keys values X.env pos)) (fun vs s' => ∃ ps H', Inv X pins σ H' s' ∧ VV ps vs ∧ Q ps H') X.xe s
theorem pps_nil {X : Cx} {pos : Pos} : PPs X pos [] [] [] := fun pins s σ H Q I h => pairTrees_nil_walk ⟨[], H, I, .nil, h⟩
theorem pps_cons {X : Cx} {pos : Pos} {k v : Expr} {ks : List (Option Expr)} {vs : List Expr} {tk tv : TE} {trs : List (TE × TE)} (hk : PE X k tk) (hv : PE X v tv) (hr : PPs X pos ks vs trs) :
    PPs X pos (some k :: ks) (v :: vs) ((tk, tv) :: trs) := fun pins s σ H Q I h =>
  pairTrees_cons_walk (thn (hk pins s σ H _ I h) fun u s1 ⟨x, H1, I1, rx, q1⟩ => thn (hv pins s1 σ H1 _ I1 q1) fun w2 s2 ⟨y, H2, I2, ry, q2⟩ =>
    thn (hr pins s2 σ H2 _ I2 q2) fun ws s3 ⟨ps, H3, I3, rel, q3⟩ => ⟨(x, y) :: ps, H3, I3, .cons ⟨rx, ry⟩ rel, q3⟩)
noncomputable def mergeK (kvs more : List (Key × V)) : List (Key × V) := more.foldl (fun acc kv => putK acc kv.1 kv.2) kvs
theorem KV.merge : ∀ {more : List (Key × V)} {rs : List (Key × Value)} {kvs : List (Key × V)} {vs : List (Key × Value)}, KV more rs → KV kvs vs → KV (mergeK kvs more) (merged vs rs) := by
  intro more rs kvs vs r
  unfold KV at r
  induction r generalizing kvs vs with
  | nil => intro q; exact q
  | @cons p q ps qs h t ih =>
    intro r0
    have e : KV (putK kvs p.1 p.2) (stored vs q.1 q.2) := by
      have := r0.put p.1 h.2
      rw [← h.1]; exact this
    exact ih e
theorem length_mergeK : ∀ (more kvs : List (Key × V)), (mergeK kvs more).length ≤ kvs.length + more.length
  | [], kvs => by show kvs.length ≤ kvs.length + 0; omega
  | p :: r, kvs => by
    have h1 := length_mergeK r (putK kvs p.1 p.2)
    have h2 := length_putK kvs p.1 p.2
    show (mergeK (putK kvs p.1 p.2) r).length ≤ _
    rw [List.length_cons]; omega
theorem carries_of {P : Program} {w : World} : ∀ {kvs : List (Key × V)} {ws : List (Value × Value)}, VV (kvs.map fun kv => (kV kv.1, kv.2)) ws → ∃ rs, Carries (mixKind P w) ws rs ∧ KV kvs rs
  | [], _, r => by rw [List.map_nil] at r; cases r; exact ⟨[], True.intro, .nil⟩
  | p :: kvs, _, r => by
    rw [List.map_cons] at r
    cases r with
    | @cons a b as bs h t =>
      obtain ⟨rs, c, q⟩ := carries_of (P := P) (w := w) t
      obtain ⟨b1, b2⟩ := b
      exact ⟨(p.1, b2) :: rs, ⟨kV_is h.1, rfl, c⟩, .cons ⟨rfl, h.2⟩ q⟩
noncomputable def tDisp (trs : List (TE × TE)) : TE := fun σ H Q => ∀ p, H p = none → tPairs trs σ (upd H p (.dK [])) fun ps H2 => H2 p = some (.dK []) ∧ ∃ kvs : List (Key × V), ps = kvs.map (fun kv => (kV kv.1, kv.2)) ∧ kvs.length ≤ 15 ∧ Q (.ref p) (upd H2 p (.dK (mergeK [] kvs)))
theorem pe_disp {X : Cx} {pos : Pos} {keys : List (Option Expr)} {values : List Expr} {trs : List (TE × TE)} (h : PPs X pos keys values trs) (hall : keys.all (·.isSome) = true) (hl : keys.length = values.length) (h0 : keys ≠ [])
    (h15 : keys.length ≤ 15) : PE X (.Dict keys values pos) (tDisp trs) := by
  intro pins s σ H Q I q
  have hn := I.hok.fresh (Nat.le_refl s.heap.objs.size)
  have I1 := I.laid (a := s.heap.objs.size) (o := .dK []) (h' := s.heap.push { cls := .type "dict", data := .dict #[] }) (t' := s.toks) (fun _ _ q => Heap.get?_push_of_some _ q) (Nat.le_refl _) (dk_empty s.heap I.big)
  refine wpAny_Dict_walk (knd := mixKind X.prog X.w) hall hl h0 h15 (thn (h pins _ σ _ _ I1 (q _ hn)) fun ws s2 ⟨ps, H2, I2, rel, e, kvs, ep, lk, q2⟩ => ?_)
  subst ep
  obtain ⟨rs, c, rk⟩ := carries_of (P := X.prog) (w := X.w) rel
  obtain ⟨z, hd, vs0, r0, dd⟩ := dk_of I2.hok e
  cases r0
  refine ⟨rs, c, dd, fun h' dd' hs => ⟨.ref s.heap.objs.size, _, ?_, rfl, q2⟩⟩
  have hz : (mergeK [] kvs).length ≤ sizeLine := by
    have h1 := length_mergeK kvs []
    rw [List.length_nil] at h1
    rw [sizeLine_eq]; omega
  have he : ∃ q, h'.get? s.heap.objs.size = some q := let ⟨q, _, _, hq, _⟩ := dd'; ⟨q, hq⟩
  exact d_write I2 (by rw [e]; exact True.intro) hs he (dk_new hz hd (rk.merge .nil) dd')
section
variable {X : Cx} {pins : List (Addr × Obj)} {σ : St} {H : Hp} {s : Shared} {a : Addr} {y d : V} {u r : Value} {o : Option V} {A : Around} {E : Value → Shared → Prop}
end
section
variable {X : Cx} {o e f : Expr} {apos cpos : Pos} {td ty tx : TE}
end
section
variable {X : Cx} {pins : List (Addr × Obj)} {σ : St} {H : Hp} {s : Shared} {a : Addr} {kvs : List (Key × V)} {A : Around} {E : Value → Shared → Prop}
end
section
variable {X : Cx} {pins : List (Addr × Obj)} {σ : St} {H : Hp} {s : Shared} {a : Addr} {y : V} {u : Value} {A : Around} {E : Value → Shared → Prop}
end
end L2
namespace Att
open PySem PySem.W PySem.Calls PyProof.Rows
theorem ints_of_wellAll {P : Params} {h : Heap} : ∀ (ns : List Int) (vs : List Value), WellAll P h vs (ns.map WData.int) → IntsAre vs ns := by
  intro ns
  induction ns with
  | nil =>
    intro vs w
    rw [List.map_nil] at w
    cases w
    exact .nil
  | cons n ns ih =>
    intro vs w
    rw [List.map_cons] at w
    cases w with
    | cons a b =>
      cases a
      exact .cons _ _ (ih _ b)
theorem script_of {l : OpenLaw} {n : Nat} (hn : l.most = some n) {P : Params} {h : Heap} {args : List WData} {vals : List Value}
    (hpre : l.row.toRowW.claim.pre args = true) (hwl : WellAll P h vals args) :
    ∃ a vs ns, vals = [Value.ref a] ∧ args = [WData.list (ns.map WData.int)] ∧ h.get? a = some { cls := .type "list", data := .seq vs.toArray } ∧ IntsAre vs ns ∧ ns.length ≤ n := by
  have hsh : WShape.hasAll [] args [.list .int] = true := (pre_splitW hpre).1
  have hc : l.pre.holds [] { args := args } = true := (pre_splitW hpre).2
  obtain ⟨d, r, rfl, h1, h2⟩ := hasAllW_cons hsh
  obtain rfl := hasAllW_nil h2
  obtain ⟨xs, rfl, h3⟩ := hasW_list h1
  obtain ⟨ns, rfl⟩ := items_int h3
  have hlen : ns.length ≤ n := by
    unfold OpenLaw.pre at hc
    have h4 : (WTm.not (.lt (.lit (.int (n : Int))) (.len (.arg 0)))).holds [] { args := [.list (ns.map .int)] } = true := by
      have h4 := (holds_andW hc).1
      rw [hn] at h4
      exact h4
    have h5 := condW_of h4 (w_not (w_lt w_lit (w_len_list (w_arg rfl))))
    rw [List.length_map] at h5
    refine Nat.le_of_not_lt fun q => ?_
    have q' : (n : Int) < ((ns.length : Nat) : Int) := by omega
    first
      | (rw [decide_eq_true q'] at h5; exact absurd h5 (by decide))
      | (simp at h5; omega)
  cases hwl with
  | cons w1 w2 =>
    cases w2
    cases w1 with
    | list ho hall => exact ⟨_, _, ns, rfl, rfl, ho, ints_of_wellAll ns _ hall, hlen⟩
theorem post_true (l : OpenLaw) (args : List WData) : l.row.toRowW.claim.post args (.bool true) args = true :=
  postW_of (r := l.row.toRowW) (X := (true == true))
    (show WShape.has [] (.bool true) .bool = true by first | rfl | decide | simp [WShape.has, WShape.arms, WShape.armsAll])
    (show (WTm.eq .res (.lit (.bool true))).value [] { args := args, res := some (.bool true), after := args } = some (.bool (true == true)) from w_eq_bool (w_res rfl) w_lit) rfl
theorem attach_call {l : OpenLaw} {n : Nat} {q : Program} {loose : List Str} {XP : (Str → Option Value) → Heap → Prop} {YP : World → Heap → Prop} {d : DefRec}
    (hn : l.most = some n) (hdf : d.params.defaults = [])
    (call : ∀ (w : World) (s₀ s₁ : Shared) (mg mb : Str → Option Value) (fa : Addr) (o : Obj) (pm cd doc : Value) (a : Addr) (vs : List Value) (ns : List Int),
      Ground q loose [] XP w s₀ mg mb s₁.heap → YP w s₁.heap →
      s₁.heap.get? fa = some o → o.data = .func (docDef d.name d.params d.body d.scope pm cd doc) → s₁.heap.CodeRec cd d.name → mg d.name = some (.ref fa) →
      s₁.heap.get? a = some { cls := .type "list", data := .seq vs.toArray } → IntsAre vs ns → ns.length ≤ n → s₁.gens = #[] →
      codeAny (model l.prog w) callerA (.call (.ref fa) ⟨[.ref a], []⟩) (fun r s' => r = .ok (.ret (.bool true)) ∧ OldK s₁.heap s'.heap ∧ s'.os = s₁.os ∧ AllBare s'.gens) s₁) :
    WalkO q loose XP YP l.row.toRowW d [] (fun f vs => PySem.call f vs) := by
  intro w s₀ s₁ mg mb G Y fa o pm cd doc dV kV ho hd hcd hD hmg hg args vals as hpre hlay hrd hwl hlo
  obtain rfl : dV = .none := Dflts.none hD hdf
  obtain rfl : kV = .none := Dflts.noKw hD
  obtain ⟨a, vs, ns, rfl, rfl, hobj, hints, hlen⟩ := script_of hn hpre hwl
  refine enter_call (codeAny_mono (call w s₀ s₁ mg mb fa o pm cd doc a vs ns G Y ho (fd_plain hd) hcd hmg hobj hints hlen hg) fun r s' hq => ?_)
  obtain ⟨rfl, h2, h3, h4⟩ := hq
  exact ⟨.inl ⟨.bool true, .bool true, [], rfl, fun _ => rfl, .bool true, post_true l _, fun _ => ⟨List.Pairwise.nil, fun _ hm => (nomatch hm)⟩⟩, h2, h3, h4⟩
section
variable {prog : Program} {w : World} {A : Around} {E : Value → Shared → Prop} {s : Shared} {K : Frag}
end
end Att
namespace L2
open PySem PySem.Spec PyProof.Rows
theorem vals_ints : ∀ {vs : List Value} {ns : List Int}, IntsAre vs ns → Vals (ns.map V.int) vs
  | _, _, .nil => .nil
  | _, _, .cons n t h => .cons ⟨t, rfl⟩ (vals_ints h)
noncomputable def Only (H : Hp) : Prop := ∀ b, H b = none ∨ ∃ o xs, H b = some (.frz o (.lst xs))
theorem law_call {P : Program} {w : World} {K : PySem.W.Frag} {mg mb : Str → Option Value} {CX : CXT} {k : Nat} {fa a : Addr} {fd : FuncData} {x : Str} {sp : Sp} {s₁ : Shared} {vs : List Value} {ns : List Int}
    (KX : K.In s₁.heap) (hns : s₁.heap.Ns mainGlobals mg) (hb : s₁.heap.Ns builtinsNs mb) (hbb : ∀ x : Str, x ≠ "__name__" → mb x = bootBuiltins x) (hlim : s₁.heap.NoLimit) (hg : s₁.gens = #[])
    (ha : s₁.heap.get? a = some { cls := .type "list", data := .seq vs.toArray }) (hi : IntsAre vs ns) (hl : ns.length ≤ sizeLine) (hr : Room k callerA)
    (F : ∀ base : Heap, K.In base → base.Ns mainGlobals mg → FnOk P w K mg base CX k fa fd [x] sp) (hbind : ∀ (s : Shared) (u : Value), BindsTo s fd ⟨[u], []⟩ [(x, u)])
    (hsp : ∀ H : Hp, Only H → SqL K H a (ns.map V.int) → sp [.ref a] H (fun v _ => v = .bl true) fun _ _ _ => False)
    (hCX : ∀ H e s', CX [] H s₁ (fun _ _ _ => False) e s' → False) :
    codeAny (model P w) callerA (.call (.ref fa) ⟨[.ref a], []⟩) (fun r s' => r = .ok (.ret (.bool true)) ∧ OldK s₁.heap s'.heap ∧ s'.os = s₁.os ∧ AllBare s'.gens) s₁ := by
  have rv := vals_ints hi
  have lenV := hi.length
  -- from an abstract heap in which nothing but the script may be tracked
  have core : ∀ H : Hp, Only H → SqL K H a (ns.map V.int) → HOk P w H s₁.heap → (∀ b, H b ≠ none → b = a) → (H a ≠ none → K.lookup a = none) →
      codeAny (model P w) callerA (.call (.ref fa) ⟨[.ref a], []⟩) (fun r s' => r = .ok (.ret (.bool true)) ∧ OldK s₁.heap s'.heap ∧ s'.os = s₁.os ∧ AllBare s'.gens) s₁ := by
    intro H hO hS hok hA hK
    have base_of : ∀ {b : Addr} {o : Obj}, s₁.heap.get? b = some o → H b = none → (hidT s₁.heap H).get? b = some o := fun e n => hidT_get e n
    have noA : ∀ {b : Addr} {o : Obj} {es : Array DictEntry} {ep : Nat}, s₁.heap.get? b = some o → o.data = .dict es ep → H b = none := fun {b o es ep} e d => by
      cases q : H b with
      | none => rfl
      | some u =>
        have e' : b = a := hA b (by rw [q]; simp)
        subst e'
        rw [ha] at e; cases e
        have d' : Data.seq vs.toArray _ = Data.dict es ep := d
        cases d'
    have nsK : ∀ {b : Addr} {m : Str → Option Value}, s₁.heap.Ns b m → (hidT s₁.heap H).Ns b m := fun {b m} ⟨o, es, ep, e, d, r⟩ => ⟨o, es, ep, base_of e (noA e d), d, r⟩
    have hKb : K.In (hidT s₁.heap H) := fun b o e => base_of (KX b o e) (by
      cases q : H b with
      | none => rfl
      | some u =>
        have e' : b = a := hA b (by rw [q]; simp)
        subst e'
        rw [hK (by rw [q]; simp)] at e; cases e)
    have hM : Mod K mg (hidT s₁.heap H) := ⟨hKb, nsK hns, ⟨mb, nsK hb, hbb⟩, let ⟨mc, h1, h2⟩ := hlim; ⟨mc, nsK h1, h2⟩⟩
    have e0 : Env0 P w K mg (hidT s₁.heap H) callerA [] s₁ H := ⟨rfl, hM, fun b o e => of_hidT e, Nat.le_of_eq (hidT_size _ _), trivial, fun b hb => absurd (show b ∈ ([] : List Addr) from hb) (by simp), hok, .of_eq hg⟩
    refine codeAny_mono ((F _ hKb (nsK hns)).run callerA [] s₁ H ⟨[.ref a], []⟩ [.ref a] [.ref a] _ _ hr e0 (hbind s₁ (.ref a)) (.cons rfl .nil) (hsp H hO hS)) fun r s' h => ?_
    cases r with
    | error e => exact (hCX H e s' h).elim
    | ok fl =>
      cases fl with
      | next => exact False.elim h
      | brk => exact False.elim h
      | cont => exact False.elim h
      | ret u =>
        obtain ⟨v, H', os, bare, un, hok', r', q⟩ := h
        have q' : v = .bl true := q
        subst q'
        obtain rfl : u = Value.bool true := r'
        refine ⟨rfl, OldK.of_keep fun b o e => ?_, os, bare⟩
        cases q : H b with
        | none => exact un.keep b o e q (by intro z; exact absurd (show b ∈ ([] : List Addr) from z) (by simp)) (by simp)
        | some u =>
          rcases hO b with z | ⟨ob, xs, z⟩
          · rw [q] at z; cases z
          · have z2 := un.frzs b ob _ z
            obtain ⟨e1, _⟩ := hok b _ z
            obtain ⟨e2, _⟩ := hok' b _ z2
            rw [e] at e1; cases e1
            exact e2
  cases hk : K.lookup a with
  | some o =>
    -- the script is one of the module's own objects
    have e := KX a o hk
    rw [ha] at e
    cases e
    refine core (fun _ => none) (fun _ => .inl rfl) (.inr ⟨_, vs.toArray, _, hk, rfl, rfl, rfl, by rw [List.size_toArray, lenV]; exact hl, by simpa using rv⟩) (fun b u z => by have z' : (none : Option HO) = some u := z; cases z') (fun b z => absurd rfl z) fun z => absurd rfl z
  | none =>
    refine core (fun b => if b = a then some (.frz { cls := .type "list", data := .seq vs.toArray } (.lst (ns.map V.int))) else none) (fun b => ?_) (.inl (.inr ⟨{ cls := .type "list", data := .seq vs.toArray }, if_pos rfl⟩)) (fun b u z => ?_) (fun b z => ?_) fun _ => hk
    · by_cases hb : b = a
      · exact .inr ⟨_, _, if_pos hb⟩
      · exact .inl (if_neg hb)
    · by_cases hb : b = a
      · have z' := (if_pos hb).symm.trans z
        cases z'
        subst hb
        exact ⟨ha, by rw [List.length_map]; exact hl, vs, _, rv, ha⟩
      · have z' := (if_neg hb).symm.trans z
        cases z'
    · by_cases hb : b = a
      · exact hb
      · exact absurd (if_neg hb) z
end L2
namespace L2
open PySem PySem.Spec PyProof.Rows
theorem walk_of {l : PySem.W.OpenLaw} {n k : Nat} {q : Program} {loose : List Str} {XP : (Str → Option Value) → Heap → Prop} {YP : World → Heap → Prop} {d : DefRec} {K : Params → PySem.W.Frag} {CX : World → CXT} {sp : World → Sp} {x : Str}
    (hn : l.most = some n) (hn2 : n ≤ sizeLine) (hdf : d.params.defaults = []) (hr : Room k callerA)
    (hY : ∀ (w : World) (h : Heap), YP w h → (K w.params).In h)
    (F : ∀ (w : World) (mg : Str → Option Value) (fa : Addr) (h : Heap), (K w.params).In h → h.Ns mainGlobals mg → mg d.name = some (.ref fa) →
      ∃ fd : FuncData, (∀ (s : Shared) (u : Value), BindsTo s fd ⟨[u], []⟩ [(x, u)]) ∧
        ∀ base : Heap, (K w.params).In base → base.Ns mainGlobals mg → FnOk l.prog w (K w.params) mg base (CX w) k fa fd [x] (sp w))
    (hsp : ∀ (w : World) (H : Hp) (a : Addr) (ns : List Int), ns.length ≤ n → Only H → SqL (K w.params) H a (ns.map V.int) → sp w [.ref a] H (fun v _ => v = .bl true) fun _ _ _ => False)
    (hCX : ∀ (w : World) (H : Hp) (s : Shared) (e : Value) (s' : Shared), CX w [] H s (fun _ _ _ => False) e s' → False) :
    PySem.W.WalkO q loose XP YP l.row.toRowW d [] (fun f vs => PySem.call f vs) := by
  refine Att.attach_call hn hdf fun w s₀ s₁ mg mb fa o pm cd doc a vs ns G Y ho hd hcd hmg hobj hints hlen hg => ?_
  have KX := hY w _ Y
  obtain ⟨fd, hb, hF⟩ := F w mg fa _ KX G.T.g hmg
  exact law_call KX G.T.g G.T.b G.T.builtins G.T.nolimit hg hobj hints (Nat.le_trans hlen hn2) hr hF hb (fun H hO hS => hsp w H a ns hlen hO hS) fun H e s' => hCX w H s₁ e s'
end L2
namespace L2
open PySem PySem.Spec PyProof.Rows
noncomputable def defArgs (s : Stmt) : Arguments := match s with
  | .FunctionDef _ a _ _ _ _ _ _ _ _ => a
  | _ => { posonlyargs := [], args := [], vararg := none, kwonlyargs := [], kw_defaults := [], kwarg := none, defaults := [] }
noncomputable def defBody (s : Stmt) : List Stmt := match s with
  | .FunctionDef _ _ b _ _ _ _ _ _ _ => b
  | _ => []
noncomputable def defScope (s : Stmt) : Scope := match s with
  | .FunctionDef _ _ _ _ _ _ sc _ _ _ => sc
  | _ => { kind := .function, names := [], isGenerator := false, isCoroutine := false }
noncomputable abbrev CX0 : CXT := fun _ _ _ _ _ _ => False
noncomputable abbrev E0 : XK := fun _ _ _ => False
theorem pass0 {X : Cx} : Passes CX0 X E0 := fun _ _ _ _ _ _ _ h => h.elim
structure Fun (K : PySem.W.Frag) (x qual : Str) (st : Stmt) (f : Addr) (fd : FuncData) : Prop where
  ex : ∃ (oc : Value) (od : Option Addr) (kV doc pm : Value) (an : Option Addr) (cdv ct : Value) (osl : Array (Option Value)),
    fd = PySem.W.fnOf x qual (defArgs st) (defBody st) (defScope st) .none kV doc pm an cdv ct ∧ K.lookup f = some ⟨oc, od, .func fd, osl⟩ ∧ PySem.W.codeIn K cdv qual = true
  kp : PySem.W.keepIn K (.ref f) = true
section
variable {P : Program} {w : World} {K : PySem.W.Frag} {mg : Str → Option Value} {base : Heap}
theorem Fun.ok {x qual : Str} {st : Stmt} {f : Addr} {fd : FuncData} {N ps : List Str} {k : Nat} {sp : Sp} (F : Fun K x qual st f fd) (S : FnScope N ps (defScope st)) (len : ∀ vs H Q E, sp vs H Q E → vs.length = ps.length)
    (hbody : ∀ (cdv : Value) (A : Around) (outer : List Env) (s : Shared) (H : Hp) (vs : List V) (Q : VK) (E : XK), Room k (A.deeper (envOfC qual (defScope st) s.heap.objs.size f cdv)) → sp vs H Q E →
      ∃ t, PSs (cxOf CX0 P w K mg base N qual (defScope st) f cdv A outer s H E).nox (defBody st) t ∧ t { nx := fun _ H' => Q .non H', rt := Q } (start N vs) H) : FnOk P w K mg base CX0 (k + 1) f fd ps sp := by
  obtain ⟨oc, od, kV, doc, pm, an, cdv, ct, osl, rfl, lk, hcd⟩ := F.ex
  refine fn_of lk hcd S len fun A outer s H vs Q E hr hsp => ?_
  obtain ⟨t, h, q⟩ := hbody cdv A outer s H vs Q E hr hsp
  exact ⟨t, h.nox, q⟩
theorem Fun.binds {x qual : Str} {st : Stmt} {f : Addr} {fd : FuncData} {ps : List Str} (F : Fun K x qual st f fd)
    (h : ∀ (kV doc pm : Value) (an : Option Addr) (cdv ct : Value) (us : List Value), us.length = ps.length → bindArgs (PySem.W.fnOf x qual (defArgs st) (defBody st) (defScope st) .none kV doc pm an cdv ct) ⟨us, []⟩ = pure (ps.zip us)) : Binds K fd ps [] := by
  obtain ⟨oc, od, kV, doc, pm, an, cdv, ct, osl, rfl, lk, hcd⟩ := F.ex
  exact .all (h kV doc pm an cdv ct)
theorem fun_mk {x qual : Str} {st : Stmt} {f : Addr} {oc : Value} {od an : Option Addr} {osl : Array (Option Value)} {kV doc pm cdv ct : Value} (l : K.lookup f = some ⟨oc, od, .func (PySem.W.fnOf x qual (defArgs st) (defBody st) (defScope st) .none kV doc pm an cdv ct), osl⟩)
    (c : PySem.W.codeIn K cdv qual = true) (k : PySem.W.keepIn K (.ref f) = true) : Fun K x qual st f (PySem.W.fnOf x qual (defArgs st) (defBody st) (defScope st) .none kV doc pm an cdv ct) := ⟨⟨oc, od, kV, doc, pm, an, cdv, ct, osl, rfl, l, c⟩, k⟩
end
theorem hu_of {A : Around} {k : Nat} (hr : Room k A) : A.units + 1 < cLine := Nat.lt_of_le_of_lt (Nat.add_le_add_left (by decide : 1 ≤ 64) _) hr.units
theorem small1000 {n : Nat} (h : n ≤ 1000) : n < sizeLine := Nat.lt_of_le_of_lt h (by decide)
section
variable {X : Cx}
theorem pv (i : Nat) {x : Str} {pos : Pos} (hN : X.N[i]? = some x := by with_unfolding_all rfl) (hv : Vis X.env.scope x := by with_unfolding_all first | exact Or.inl rfl | exact Or.inr (Or.inl rfl) | exact Or.inr (Or.inr rfl)) (hd : (x == ("__debug__" : Str)) = false := by decide)
    (hcd : (x == ("__classdict__" : Str)) = false := by decide) : PE X (.Name x pos) (tVar i) := pe_var hN hv hd hcd
end
theorem iteF {A B : Prop} (h : B) : if false = true then A else B := by
  rw [if_neg Bool.false_ne_true]
  exact h
theorem iteT {A B : Prop} (h : A) : if true = true then A else B := by
  rw [if_pos rfl]
  exact h
theorem ite2 {c A B : Prop} [Decidable c] (h1 : c → A) (h2 : ¬ c → B) : if c then A else B := by
  by_cases h : c
  · rw [if_pos h]
    exact h1 h
  · rw [if_neg h]
    exact h2 h
noncomputable def Same (H H' : Hp) : Prop := ∀ b o, H b = some o → H' b = some o
theorem Same.refl (H : Hp) : Same H H := fun _ _ h => h
theorem Same.trans {H H1 H2 : Hp} (a : Same H H1) (b : Same H1 H2) : Same H H2 := fun c o h => b c o (a c o h)
theorem Same.free {H H' : Hp} (e : Same H H') {l : Addr} (h : H' l = Option.none) : H l = Option.none := by
  cases q : H l with
  | none => rfl
  | some o =>
    rw [e l o q] at h
    cases h
theorem Same.seq {K : PySem.W.Frag} {H H' : Hp} {a : Addr} {xs : List V} (e : Same H H') (h : SqL K H a xs) : SqL K H' a xs := by
  rcases h with (h | ⟨o, h⟩) | h
  · exact .inl (.inl (e _ _ h))
  · exact .inl (.inr ⟨o, e _ _ h⟩)
  · exact .inr h
end L2
namespace L2
open PySem PySem.Spec PyProof.Rows
section
variable {X : Cx}
theorem call_lenD : CallR X (.builtin "len") (fun xs H Q => ∃ a kvs, xs = [V.ref a] ∧ H a = some (.dK kvs) ∧ Q (.int kvs.length) H) := by
  intro pins s σ H xs us Q I r h
  obtain ⟨a, kvs, rfl, ha, q⟩ := h
  obtain ⟨u, rfl, ru⟩ := vals1 r
  cases ru
  exact d_len I (.inl ha) fun t s' I' => ⟨.int kvs.length, H, I', ⟨t, rfl⟩, q⟩
end
section
variable {κ : Type} [DecidableEq κ]
end
end L2
set_option Elab.async false
set_option linter.all false
set_option maxRecDepth 100000
set_option maxHeartbeats 4000000
namespace L2
open PySem PySem.Spec PyProof.Rows
noncomputable def clOf (env : Env) (names : List (Str × NameKind)) (acc : List (Str × Addr)) : List (Str × Addr) :=
  names.foldl (fun acc y => if y.2 == NameKind.free then (y.1, (env.cells.lookup y.1).getD 0) :: acc else acc) acc
theorem closure_is {env : Env} {scope : Scope} (h : ∀ y ∈ scope.names, y.2 = NameKind.free → ∃ c, env.cells.lookup y.1 = some c) : closureFor scope env = pure (clOf env scope.names []) := by
  have all : ∀ (names : List (Str × NameKind)) (acc : List (Str × Addr)), (∀ y ∈ names, y.2 = NameKind.free → ∃ c, env.cells.lookup y.1 = some c) →
      (forIn names acc fun (y : Str × NameKind) (cs : List (Str × Addr)) => (match y with
        | (name, kind) => if (kind == NameKind.free) = true then do let c ← cellOf env name; pure (ForInStep.yield ((name, c) :: cs)) else pure (ForInStep.yield cs) : Sem (ForInStep (List (Str × Addr))))) = (pure (clOf env names acc) : Sem (List (Str × Addr))) := by
    intro names
    induction names with
    | nil => intro acc _; rfl
    | cons y r ih =>
      intro acc hy
      obtain ⟨n, k⟩ := y
      rw [List.forIn_cons]
      by_cases hk : k = NameKind.free
      · subst hk
        obtain ⟨c, hc⟩ := hy (n, .free) List.mem_cons_self rfl
        have e : cellOf env n = pure c := by unfold cellOf; rw [show env.cells.lookup n = some c from hc]
        have e2 : clOf env ((n, NameKind.free) :: r) acc = clOf env r ((n, c) :: acc) := by
          unfold clOf
          rw [List.foldl_cons]
          simp only [beq_self_eq_true, if_true]
          rw [show env.cells.lookup n = some c from hc]
          rfl
        rw [e2, ← ih ((n, c) :: acc) fun z hz => hy z (List.mem_cons_of_mem _ hz)]
        simp only [beq_self_eq_true, if_true, e]
        rfl
      · have hb : (k == NameKind.free) = false := by simpa using hk
        have e2 : clOf env ((n, k) :: r) acc = clOf env r acc := by
          unfold clOf
          rw [List.foldl_cons]
          simp only [hb, Bool.false_eq_true, if_false]
        rw [e2, ← ih acc fun z hz => hy z (List.mem_cons_of_mem _ hz)]
        simp only [hb, Bool.false_eq_true, if_false]
        rfl
  have q := all scope.names [] h
  unfold closureFor
  first
    | exact q
    | (simp only [bind_pure]; exact q)
    | (refine Eq.trans ?_ q; rfl)
theorem clOf_sub {env : Env} {x : Str} {c : Addr} : ∀ {names : List (Str × NameKind)} {acc : List (Str × Addr)}, (∀ y ∈ names, y.2 = NameKind.free → ∃ c, env.cells.lookup y.1 = some c) → (acc.lookup x = some c → env.cells.lookup x = some c) →
    (clOf env names acc).lookup x = some c → env.cells.lookup x = some c
  | [], acc, _, ha, h => ha h
  | (n, k) :: r, acc, hn, ha, h => by
    have e : clOf env ((n, k) :: r) acc = clOf env r (if k == NameKind.free then (n, (env.cells.lookup n).getD 0) :: acc else acc) := rfl
    rw [e] at h
    refine clOf_sub (fun y hy => hn y (List.mem_cons_of_mem _ hy)) (fun q => ?_) h
    by_cases hk : k = NameKind.free
    · subst hk
      simp only [beq_self_eq_true, if_true, List.lookup_cons] at q
      obtain ⟨d, hd⟩ := hn (n, .free) List.mem_cons_self rfl
      have hd' : env.cells.lookup n = some d := hd
      split at q
      · rename_i hx
        have hx' : x = n := beq_iff_eq.mp hx
        rw [hd'] at q
        rw [hx', hd']
        exact q
      · exact ha q
    · have hb : (k == NameKind.free) = false := by simpa using hk
      simp only [hb, Bool.false_eq_true, if_false] at q
      exact ha q
theorem clOf_has {env : Env} {x : Str} : ∀ {names : List (Str × NameKind)} {acc : List (Str × Addr)}, ((∃ c, acc.lookup x = some c) ∨ (x, NameKind.free) ∈ names) → ∃ c, (clOf env names acc).lookup x = some c
  | [], acc, h => by
    rcases h with h | h
    · exact h
    · cases h
  | (n, k) :: r, acc, h => by
    have e : clOf env ((n, k) :: r) acc = clOf env r (if k == NameKind.free then (n, (env.cells.lookup n).getD 0) :: acc else acc) := rfl
    rw [e]
    refine clOf_has ?_
    by_cases hk : k = NameKind.free
    · subst hk
      simp only [beq_self_eq_true, if_true, List.lookup_cons]
      by_cases hx : x = n
      · left
        have hb : (x == n) = true := beq_iff_eq.mpr hx
        rw [hb]
        exact ⟨_, rfl⟩
      · have hb : (x == n) = false := beq_eq_false_iff_ne.mpr hx
        rw [hb]
        rcases h with h | h
        · exact .inl h
        · rcases List.mem_cons.mp h with q | q
          · cases q; exact absurd rfl hx
          · exact .inr q
    · have hb : (k == NameKind.free) = false := by simpa using hk
      simp only [hb, Bool.false_eq_true, if_false]
      rcases h with h | h
      · exact .inl h
      · rcases List.mem_cons.mp h with q | q
        · cases q; exact absurd rfl hk
        · exact .inr q
theorem cells_app : ∀ (names : List (Str × NameKind)) (n : Nat) (acc : List (Str × Addr)), cellsFrom n names acc = cellsFrom n names [] ++ acc
  | [], _, _ => rfl
  | (x, k) :: r, n, acc => by
    unfold cellsFrom
    split
    · rw [cells_app r (n + 1) ((x, n) :: acc), cells_app r (n + 1) [(x, n)], List.append_assoc]
      rfl
    · exact cells_app r n acc
theorem cells_kind {x : Str} {c : Addr} : ∀ {names : List (Str × NameKind)} {n : Nat}, (x, c) ∈ cellsFrom n names [] → (x, NameKind.cell) ∈ names
  | [], _, h => by cases h
  | (y, k) :: r, n, h => by
    unfold cellsFrom at h
    split at h
    · rename_i hk
      rw [cells_app] at h
      rcases List.mem_append.mp h with h | h
      · exact List.mem_cons_of_mem _ (cells_kind h)
      · have e := List.mem_singleton.mp h
        cases e
        rw [beq_iff_eq.mp hk]
        exact List.mem_cons_self
    · exact List.mem_cons_of_mem _ (cells_kind h)
theorem lookup_ex {α : Type} {x : Str} {c : α} : ∀ {l : List (Str × α)}, (x, c) ∈ l → ∃ d, l.lookup x = some d
  | [], h => by cases h
  | (y, d) :: r, h => by
    rw [List.lookup_cons]
    cases e : x == y with
    | true => exact ⟨d, rfl⟩
    | false =>
      rcases List.mem_cons.mp h with q | q
      · cases q
        simp at e
      · exact lookup_ex q
theorem cells_has {x : Str} : ∀ {names : List (Str × NameKind)} {n : Nat}, (x, NameKind.cell) ∈ names → ∃ c, (x, c) ∈ cellsFrom n names []
  | [], _, h => by cases h
  | (y, k) :: r, n, h => by
    unfold cellsFrom
    split
    · rw [cells_app]
      rcases List.mem_cons.mp h with q | q
      · cases q
        exact ⟨n, List.mem_append_right _ (by simp)⟩
      · obtain ⟨c, hc⟩ := cells_has (n := n + 1) q
        exact ⟨c, List.mem_append_left _ hc⟩
    · rename_i hk
      rcases List.mem_cons.mp h with q | q
      · cases q
        exact absurd rfl hk
      · exact cells_has q
noncomputable def compOk (outer scope : Scope) (xs fr : List Str) : Bool :=
  (scope.kind == .function) && (outer.kind == .function) && decide (scope.names.map (·.1)).Nodup
  && (scope.names.all fun y => y.2 != .local || scope.names.lookup y.1 == some .local)
  && (scope.names.all fun y => y.2 != .free || (outer.names.lookup y.1 == some .cell || outer.names.lookup y.1 == some .free))
  && (scope.names.all fun y => y.2 != .free || scope.names.lookup y.1 == some .free)
  && (xs.all fun x => scope.names.lookup x == some .local || scope.names.lookup x == some .cell) && (fr.all fun x => scope.names.lookup x == some .free) && decide (xs ++ fr).Nodup
theorem lookup_mem {α : Type} {x : Str} {v : α} : ∀ {l : List (Str × α)}, l.lookup x = some v → (x, v) ∈ l
  | [], h => by cases h
  | (n, k) :: r, h => by
    rw [List.lookup_cons] at h
    split at h
    · rename_i hx
      have hx' : x = n := beq_iff_eq.mp hx
      cases h
      rw [hx']
      exact List.mem_cons_self
    · exact List.mem_cons_of_mem _ (lookup_mem h)
theorem lookup_relabel {scope : Scope} {env : Env} {x : Str} {k : NameKind} (hk : env.scope.kind = .function) : ∀ {names : List (Str × NameKind)}, names.lookup x = some k →
    (names.map fun (n, k) => if (k == NameKind.free && env.scope.kind == .function && env.kindOf n == some .cell) then (n, NameKind.cell) else (n, k)).lookup x = some (if (k == NameKind.free && env.kindOf x == some .cell) then .cell else k)
  | [], h => by cases h
  | (n, j) :: r, h => by
    have ih := @lookup_relabel scope env x k hk r
    rw [List.map_cons]
    rw [List.lookup_cons] at h
    dsimp only
    split at h
    · rename_i hx
      have hx' : x = n := beq_iff_eq.mp hx
      cases h
      subst hx'
      by_cases hc : (k == NameKind.free && env.scope.kind == .function && env.kindOf x == some .cell) = true
      · have hc2 : (k == NameKind.free && env.kindOf x == some .cell) = true := by
          rw [Bool.and_eq_true, Bool.and_eq_true] at hc
          rw [Bool.and_eq_true]
          exact ⟨hc.1.1, hc.2⟩
        rw [if_pos hc, if_pos hc2, List.lookup_cons, beq_self_eq_true]
      · have hc2 : ¬ (k == NameKind.free && env.kindOf x == some .cell) = true := fun q => hc (by
          rw [Bool.and_eq_true] at q
          rw [Bool.and_eq_true, Bool.and_eq_true, hk]
          exact ⟨⟨q.1, rfl⟩, q.2⟩)
        rw [if_neg hc, if_neg hc2, List.lookup_cons, beq_self_eq_true]
    · rename_i hx
      have hx' : (x == n) = false := by simpa using hx
      by_cases hc : (j == NameKind.free && env.scope.kind == .function && env.kindOf n == some .cell) = true
      · rw [if_pos hc, List.lookup_cons, hx']
        exact ih h
      · rw [if_neg hc, List.lookup_cons, hx']
        exact ih h
theorem of_lookup_relabel {env : Env} {x : Str} {k : NameKind} : ∀ {names : List (Str × NameKind)},
    (names.map fun (n, k) => if (k == NameKind.free && env.scope.kind == .function && env.kindOf n == some .cell) then (n, NameKind.cell) else (n, k)).lookup x = some k →
    ∃ j, names.lookup x = some j ∧ (k = j ∨ (j = .free ∧ k = .cell))
  | [], h => by cases h
  | (n, j) :: r, h => by
    have ih := @of_lookup_relabel env x k r
    rw [List.map_cons] at h
    dsimp only at h
    by_cases hc : (j == NameKind.free && env.scope.kind == .function && env.kindOf n == some .cell) = true
    · rw [if_pos hc, List.lookup_cons] at h
      have hj : j = .free := by
        rw [Bool.and_eq_true, Bool.and_eq_true] at hc
        exact beq_iff_eq.mp hc.1.1
      rw [List.lookup_cons]
      split at h
      · rename_i hx
        cases h
        exact ⟨j, rfl, .inr ⟨hj, rfl⟩⟩
      · rename_i hx
        have hx' : (x == n) = false := by simpa using hx
        exact ih h
    · rw [if_neg hc, List.lookup_cons] at h
      rw [List.lookup_cons]
      split at h
      · rename_i hx
        cases h
        exact ⟨_, rfl, .inl rfl⟩
      · rename_i hx
        have hx' : (x == n) = false := by simpa using hx
        exact ih h
structure CompS (X : Cx) (scope : Scope) (xs fr : List Str) : Prop where
  kind : scope.kind = .function
  okind : X.env.scope.kind = .function
  uniq : (scope.names.map (·.1)).Nodup
  names : ∀ y ∈ scope.names, y.2 = .local → scope.names.lookup y.1 = some .local
  free : ∀ y ∈ scope.names, y.2 = .free → X.env.kindOf y.1 = some .cell ∨ X.env.kindOf y.1 = some .free
  own : ∀ x ∈ xs, scope.names.lookup x = some .local ∨ scope.names.lookup x = some .cell
  fre : ∀ x ∈ fr, scope.names.lookup x = some .free
  nd : (xs ++ fr).Nodup
theorem compS_of {X : Cx} {scope : Scope} {xs fr : List Str} (h : compOk X.env.scope scope xs fr = true) : CompS X scope xs fr := by
  unfold compOk at h
  simp only [Bool.and_eq_true, List.all_eq_true, bne_iff_ne, Bool.or_eq_true, beq_iff_eq, decide_eq_true_eq] at h
  obtain ⟨⟨⟨⟨⟨⟨⟨⟨h1, h2⟩, h3⟩, h4⟩, h5⟩, h6⟩, h7⟩, h8⟩, h9⟩ := h
  exact ⟨h1, h2, h3, fun y hy e => (h4 y hy).resolve_left (fun q => q e), fun y hy e => (h5 y hy).resolve_left (fun q => q e), h7, h8, h9⟩
noncomputable def pick (σ : St) (js : List Nat) : St := js.map fun j => (σ[j]?).getD none
noncomputable abbrev cxC (X : Cx) (scope : Scope) (xs fr : List Str) (C : Addr) (ex : List Addr) (s₀ : Shared) (H₀ : Hp) : Cx :=
  { X with N := xs ++ fr, env := compEnvC scope (cellsFrom (C + 1) scope.names (clOf X.env scope.names [])) C X.env, s₀ := s₀, H₀ := H₀, outer := X.stack, ex := ex, fn := fun x => scope.names.lookup x == some .cell, pn := [], xe := fun _ _ => False }
section
variable {X : Cx} {scope : Scope} {xs fr : List Str} {pins : List (Addr × Obj)} {σ : St} {H : Hp} {s : Shared} {js : List Nat} {fp : List Addr}
theorem lookup_nd {α : Type} {x : Str} {v : α} : ∀ {l : List (Str × α)}, (l.map (·.1)).Nodup → (x, v) ∈ l → l.lookup x = some v
  | [], _, h => by cases h
  | (y, d) :: r, hn, h => by
    obtain ⟨h1, h2⟩ := List.nodup_cons.mp hn
    rw [List.lookup_cons]
    rcases List.mem_cons.mp h with q | q
    · cases q
      rw [beq_self_eq_true]
    · have hne : (x == y) = false := beq_eq_false_iff_ne.mpr fun e => h1 (e ▸ List.mem_map.mpr ⟨(x, v), q, rfl⟩)
      rw [hne]
      exact lookup_nd h2 q
theorem CompS.cells (S : CompS X scope xs fr) (ok : X.Ok) : ∀ y ∈ scope.names, y.2 = NameKind.free → ∃ c, X.env.cells.lookup y.1 = some c := fun y hy e => ok.has _ (S.free y hy e)
theorem block_in (S : CompS X scope xs fr) (hjs : js.map (fun j => X.N[j]?) = fr.map some) (I : Inv X pins σ H s) (hfp : ∀ b ∈ fp, FpOk X pins H b) (hob : ∀ b ∈ fp, ∃ o, s.heap.get? b = some o) {h' : Heap} {t' : Nat}
    (hn : h'.Ns s.heap.objs.size fun _ => none) (keep : ∀ b o, s.heap.get? b = some o → h'.get? b = some o) (hcs : CellsOk h' (s.heap.objs.size + 1) (cellsFrom (s.heap.objs.size + 1) scope.names [])) :
    Inv (cxC X scope xs fr s.heap.objs.size fp s H) [] (List.replicate xs.length none ++ pick σ js) H { s with heap := h', toks := t' } := by
  have hcl := S.cells I.ok
  have sub : ∀ x c, (clOf X.env scope.names []).lookup x = some c → X.env.cells.lookup x = some c := fun x c h => clOf_sub hcl (fun q => by cases q) h
  have hl : js.length = fr.length := by have := congrArg List.length hjs; rwa [List.length_map, List.length_map] at this
  have two : ∀ x c, (cellsFrom (s.heap.objs.size + 1) scope.names (clOf X.env scope.names [])).lookup x = some c → (x, c) ∈ cellsFrom (s.heap.objs.size + 1) scope.names [] ∨ (clOf X.env scope.names []).lookup x = some c := fun x c h => by
    rw [cells_app, List.lookup_append] at h
    cases e : (cellsFrom (s.heap.objs.size + 1) scope.names []).lookup x with
    | some d =>
      rw [e] at h
      cases h
      exact .inl (lookup_mem e)
    | none =>
      rw [e] at h
      exact .inr h
  have oldc : ∀ x c, X.env.cells.lookup x = some c → c < s.heap.objs.size := fun x c h => let ⟨_, _, ho, _⟩ := I.cell x c h; Heap.lt_size ho
  have newc : ∀ x c, (x, c) ∈ cellsFrom (s.heap.objs.size + 1) scope.names [] → s.heap.objs.size < c := fun x c h => (hcs.empty x c h).2
  refine ⟨⟨I.ok.mod, S.kind, I.ok.glob, I.ok.blt, Nat.le_refl _, fun x y c h1 h2 => ?_, fun x hx => ?_, fun x c hf h => ?_, I.ok.hd, I.ok.frames, .inl rfl, fun b hb => ?_, fun b o e => I.bs b o e, Nat.le_trans I.ok.bsz I.sz, fun b o e hb => ?_, fun b hb hb2 => ?_, I.stack, I.stkFree⟩,
    rfl, I.bare, Un.kept keep, ⟨_, hn, fun i x v e1 e2 e3 => ?_⟩, fun x c h => ?_, I.hok.fresh (Nat.le_refl _), fun x c h => ?_, fun p hp => absurd (show p ∈ ([] : List (Addr × Obj)) from hp) (by simp), I.hok.kept keep, ?_⟩
  · rcases two x c h1 with g1 | g1
    · rcases two y c h2 with g2 | g2
      · exact name_of_addr hcs.apart g1 g2
      · exact absurd (oldc y c (sub y c g2)) (Nat.not_lt.mpr (Nat.le_of_lt (newc x c g1)))
    · rcases two y c h2 with g2 | g2
      · exact absurd (oldc x c (sub x c g1)) (Nat.not_lt.mpr (Nat.le_of_lt (newc y c g2)))
      · exact I.ok.inj x y c (sub x c g1) (sub y c g2)
  · -- the names that are cells there have one
    have hx : (relabel scope X.env).names.lookup x = some .cell ∨ (relabel scope X.env).names.lookup x = some .free := hx
    have app : ∀ c, (clOf X.env scope.names []).lookup x = some c ∨ (x, c) ∈ cellsFrom (s.heap.objs.size + 1) scope.names [] → ∃ c, (cellsFrom (s.heap.objs.size + 1) scope.names (clOf X.env scope.names [])).lookup x = some c := fun c h => by
      rw [cells_app, List.lookup_append]
      rcases h with h | h
      · cases (cellsFrom (s.heap.objs.size + 1) scope.names []).lookup x with
        | some d => exact ⟨d, rfl⟩
        | none => exact ⟨c, h⟩
      · obtain ⟨d, hd⟩ := lookup_ex h
        rw [hd]
        exact ⟨d, rfl⟩
    have go : ∀ k, (relabel scope X.env).names.lookup x = some k → (k = .cell ∨ k = .free) → ∃ c, (cellsFrom (s.heap.objs.size + 1) scope.names (clOf X.env scope.names [])).lookup x = some c := fun k e hk => by
      obtain ⟨j, hj, q⟩ := of_lookup_relabel (env := X.env) (names := scope.names) e
      have hm := lookup_mem hj
      have hjf : j = .free ∨ j = .cell := by
        rcases q with q | q
        · rcases hk with hk | hk
          · exact .inr (q ▸ hk)
          · exact .inl (q ▸ hk)
        · exact .inl q.1
      rcases hjf with hjf | hjf
      · subst hjf
        obtain ⟨c, hc⟩ := clOf_has (env := X.env) (x := x) (names := scope.names) (acc := []) (.inr hm)
        exact app c (.inl hc)
      · subst hjf
        obtain ⟨c, hc⟩ := cells_has (n := s.heap.objs.size + 1) hm
        exact app c (.inr hc)
    rcases hx with hx | hx
    · exact go _ hx (.inl rfl)
    · exact go _ hx (.inr rfl)
  · rcases two x c h with g | g
    · exact Nat.le_of_lt (newc x c g)
    · have hf' : scope.names.lookup x = some .cell := by simpa using hf
      obtain ⟨d, hd⟩ := cells_has (n := s.heap.objs.size + 1) (lookup_mem hf')
      have h' := h
      obtain ⟨e, he⟩ := lookup_ex hd
      have h' : (cellsFrom (s.heap.objs.size + 1) scope.names (clOf X.env scope.names [])).lookup x = some c := h
      rw [cells_app, List.lookup_append, he] at h'
      cases h'
      exact Nat.le_of_lt (newc x _ (lookup_mem he))
  · obtain ⟨f0, f1, f2, f3, f4, f5⟩ := hfp b hb
    obtain ⟨o, ho⟩ := hob b hb
    refine ⟨Nat.ne_of_lt (Heap.lt_size ho), fun x c h z => ?_⟩
    rcases two x c h with g | g
    · have h1 := newc x c g
      have h2 := Heap.lt_size ho
      rw [← z] at h2
      exact absurd h1 (Nat.not_lt.mpr (Nat.le_of_lt h2))
    · exact f4 x c (sub x c g) z
  · obtain ⟨f0, f1, f2, f3, f4, f5⟩ := hfp b hb
    rcases f3 with f3 | f3
    · exact I.ok.noex b o e f3
    · exact absurd (Nat.lt_of_lt_of_le (Heap.lt_size (I.ok.bs b o e).1) f3) (Nat.lt_irrefl _)
  · obtain ⟨f0, f1, f2, f3, f4, f5⟩ := hfp b hb
    rcases List.mem_cons.mp (I.stkSub b hb2) with z | z
    · exact f1 z
    · exact f2 z
  · have e1 : (xs ++ fr)[i]? = some x := e1
    by_cases hi : i < xs.length
    · rw [List.getElem?_append_left (by rw [List.length_replicate]; exact hi), List.getElem?_replicate, if_pos hi] at e2
      cases e2
    · have hi' : xs.length ≤ i := Nat.le_of_not_lt hi
      rw [List.getElem?_append_right hi'] at e1
      rw [List.getElem?_append_right (by rw [List.length_replicate]; exact hi'), List.length_replicate] at e2
      unfold pick at e2
      rw [List.getElem?_map] at e2
      cases ej : js[i - xs.length]? with
      | none => rw [ej] at e2; cases e2
      | some j =>
        rw [ej] at e2
        have e2' : (σ[j]?).getD none = some v := Option.some.inj e2
        have e4 : σ[j]? = some (some v) := by
          cases q : σ[j]? with
          | none => rw [q] at e2'; cases e2'
          | some o => rw [q] at e2'; rw [show o = some v from e2']
        have e5 : X.N[j]? = some x := by
          have := congrArg (fun l => l[i - xs.length]?) hjs
          rw [List.getElem?_map, List.getElem?_map, ej, e1] at this
          exact Option.some.inj this
        have hf := S.fre x (List.mem_of_getElem? e1)
        have hk := S.free _ (lookup_mem hf) rfl
        obtain ⟨m, hm, hl'⟩ := I.loc
        obtain ⟨u, r, lk⟩ := hl' j x v e5 e4 (.inr hk)
        refine ⟨u, r, .inr ⟨?_, ?_⟩⟩
        · have q := lookup_relabel (scope := scope) (env := X.env) S.okind hf
          show (relabel scope X.env).names.lookup x = some .cell ∨ (relabel scope X.env).names.lookup x = some .free
          have q' : (relabel scope X.env).names.lookup x = some (if (NameKind.free == NameKind.free && X.env.kindOf x == some .cell) then .cell else .free) := q
          by_cases hc : (NameKind.free == NameKind.free && X.env.kindOf x == some .cell) = true
          · rw [if_pos hc] at q'; exact .inl q'
          · rw [if_neg hc] at q'; exact .inr q'
        · obtain ⟨c', hc'⟩ := clOf_has (env := X.env) (x := x) (names := scope.names) (acc := []) (.inr (lookup_mem hf))
          rcases lk with ⟨z, _⟩ | ⟨_, c, hc, ob, ho, hd⟩
          · rcases hk with hk | hk
            · rw [z] at hk; cases hk
            · rw [z] at hk; cases hk
          · have e6 : c = c' := by
              have := sub x c' hc'
              rw [hc] at this
              exact Option.some.inj this
            subst e6
            refine ⟨_, ?_, ob, keep _ _ ho, hd⟩
            show (cellsFrom (s.heap.objs.size + 1) scope.names (clOf X.env scope.names [])).lookup x = some c
            rw [cells_app, List.lookup_append]
            have none' : (cellsFrom (s.heap.objs.size + 1) scope.names []).lookup x = none := by
              cases e : (cellsFrom (s.heap.objs.size + 1) scope.names []).lookup x with
              | none => rfl
              | some d =>
                have := lookup_nd S.uniq (cells_kind (lookup_mem e))
                rw [hf] at this
                cases this
            rw [none']
            exact hc'
  · rcases two x c h with g | g
    · exact ⟨_, (hcs.empty x c g).1⟩
    · obtain ⟨v, ob, ho, hd⟩ := I.cell x c (sub x c g)
      exact ⟨v, ob, keep _ _ ho, hd⟩
  · rcases two x c h with g | g
    · exact I.hok.fresh (Nat.le_of_lt (newc x c g))
    · exact I.freeC x c (sub x c g)
  · show _ = (xs ++ fr).length
    unfold pick
    rw [List.length_append, List.length_append, List.length_replicate, List.length_map, hl]
theorem new_block {M : Model} {A : Around} {E : Value → Shared → Prop} {s : Shared} {scope : Scope} {globals : Addr} {cl : List (Str × Addr)} {qual : Str} {env : Env} {Q : Env → Shared → Prop}
    (hQ : ∀ h', h'.Ns s.heap.objs.size (fun _ => none) → (∀ b o, s.heap.get? b = some o → h'.get? b = some o) → CellsOk h' (s.heap.objs.size + 1) (cellsFrom (s.heap.objs.size + 1) scope.names []) →
      Q (newEnv scope s.heap.objs.size globals (cellsFrom (s.heap.objs.size + 1) scope.names cl) qual none .none (some env) builtinsNs) { s with heap := h' }) :
    wpAny M A (newFunctionEnv scope globals cl [] qual none .none (some env)) Q E s := by
  simp only [newFunctionEnv, Option.isSome_some, if_true]
  refine wpAny_bind (wpAny_alloc ?_)
  refine wpAny_bind (wpAny_layCells _ (fun name kind cells => by cases hkc : kind == NameKind.cell <;> simp [hkc]) _ _ _ _ ?_)
  have okc := cellsFrom_ok scope.names (s.heap.push { cls := .type "dict", data := .dict #[] }) (s.heap.objs.size + 1) [] ⟨fun _ _ hm => (nomatch hm), List.Pairwise.nil⟩ (by rw [Heap.size_push]; exact Nat.le_refl _)
  rw [Heap.size_push] at okc
  rw [show ({ s with heap := s.heap.push { cls := .type "dict", data := .dict #[] } } : Shared).heap.objs.size = s.heap.objs.size + 1 from Heap.size_push ..]
  rw [List.forIn_nil]
  exact wpAny_bind (wpAny_pure (wpAny_pure (hQ _ ((Heap.Ns.new s.heap (.type "dict")).keeps (pushCells_keeps _ _)) (fun b o e => pushCells_keeps _ _ b o (Heap.get?_push_of_some _ e)) okc)))
theorem block_out {σ' : St} {H' : Hp} {s' : Shared} {h'' : Heap} (I : Inv X pins σ H s) (hfp : ∀ b ∈ fp, FpOk X pins H b) (J : Inv (cxC X scope xs fr s.heap.objs.size fp s H) [] σ' H' s') (hs : Heap.SameBut s.heap.objs.size s'.heap h'') :
    Inv X pins σ H' { s' with heap := h'' } := by
  have old : ∀ b o, s.heap.get? b = some o → b ≠ s.heap.objs.size := fun b o e => Nat.ne_of_lt (Heap.lt_size e)
  have ub : Un (frs X.stack) fp H H' s.heap s'.heap := J.base
  refine I.call' (s' := { s' with heap := h'' }) (ch := fp) J.os ⟨fun b o e n hb hx => (hs.2 b (old b o e)).trans (ub.keep b o e n hb hx), fun b o e n hb hx => ?_, ub.free, fun b o e hx => ?_, ub.tups, ub.frzs, ub.tbls⟩ (fun b o e => ?_) J.bare fun b hb => ?_
  · obtain ⟨sl, e1⟩ := ub.slot b o e n hb hx
    exact ⟨sl, (hs.2 b (old b o e)).trans e1⟩
  · obtain ⟨o', e1⟩ := ub.there b o e hx
    exact ⟨o', (hs.2 b (old b o e)).trans e1⟩
  · have hf : H' s.heap.objs.size = none := J.free
    refine (J.hok b o e).stay (fun c v hc q => (hs.2 c ?_).trans q) (fun _ q => q) fun _ _ q => q
    intro z
    rcases hc with hc | hc
    · rw [← hc, z, hf] at e; cases e
    · rw [z, hf] at hc; cases hc
  · obtain ⟨f0, f1, f2, f3, f4, f5⟩ := hfp b hb
    exact ⟨f3, f1, f4, f5⟩
noncomputable def PIf (X : Cx) (ifs : List Expr) (t : TT) : Prop :=
  ∀ (pins : List (Addr × Obj)) (s : Shared) (σ : St) (H : Hp) (Q : Bool → Hp → Prop) (E : Value → Shared → Prop), (∀ e s', X.xe e s' → E e s') → Inv X pins σ H s → t σ H Q →
    wpAny (model X.prog X.w) X.A (forIn ifs true fun c r => if r = true then do let ok ← isTrue c X.env (eval c X.env); pure (ForInStep.yield ok) else pure (ForInStep.yield r)) (TP X pins σ Q) E s
noncomputable def tTrue : TT := fun _ H Q => Q true H
theorem pif_nil : PIf X [] tTrue := fun _ _ _ H _ _ _ I h => wpAny_tests_nil ⟨H, I, h⟩
theorem pif_one {c : Expr} {t : TT} (hc : PT X c t) : PIf X [c] t := fun pins s σ H Q _ hE I h => wpAny_tests_one (wpAny_mono (hc pins s σ H Q I h) (fun _ _ z => z) hE)
noncomputable def tComp (k : Nat) (js : List Nat) (wi : TI) (g : TG) (tt : TT) (te : TE) : TE := fun σ H Q => wi σ H fun J H1 => ∀ p, H1 p = none →
  ∃ W : Nat → Nat → Hp → Prop, (∃ m, W 0 m (upd H1 p (.lst []))) ∧ ∀ i m H, W i m H →
    (J.stop i H ∧ Q (.ref p) H) ∨ (J.go i H ∧ ∃ N : Hp → Prop, (∀ H', N H' → ∃ m', m' < m ∧ W (i + 1) m' H') ∧
      ∀ x H', J.yld i H x H' → g x (List.replicate k none ++ pick σ js) H' fun σ2 H2 => tt σ2 H2 fun b H3 =>
        if b = true then te σ2 H3 fun y H4 => ∃ acc, H4 p = some (.lst acc) ∧ acc.length < sizeLine ∧ N (upd H4 p (.lst (acc ++ [y]))) else N H3)
theorem comp_loop {tg elt iter : Expr} {ifs : List Expr} {pos : Pos} {it acc : Value} {env : Env} {A : Around} {R : Result → Shared → Prop} {s : Shared} {P : Program} {w : World} (I : Nat → Shared → Prop)
    (turn : ∀ n s, I n s → wpAny (model P w) A (pyNext it) (fun r s₁ => match r with
      | none => R (.ok .next) s₁
      | some v => wpAny (model P w) A (letOwnedTupleGo tg it v) (fun _ s₁' => wpAny (model P w) A (assign tg env v) (fun _ s₂ =>
          wpAny (model P w) A (forIn ifs true fun c r => if r = true then do let ok ← isTrue c env (eval c env); pure (ForInStep.yield ok) else pure (ForInStep.yield r)) (fun ok s₃ =>
            if ok = true then wpAny (model P w) A (eval elt env) (fun x s₄ =>
              wpAny (model P w) A (call (.builtin "list.append") [acc, x]) (fun _ s₅ => ∃ m, m < n ∧ I m s₅) (fun _ _ => False) s₄) (fun _ _ => False) s₃
            else ∃ m, m < n ∧ I m s₃) (fun _ _ => False) s₂) (fun _ _ => False) s₁') (fun _ _ => False) s₁) (fun _ _ => False) s)
    (n : Nat) (h : I n s) : codeAny (model P w) A (.compLoop (.ListComp elt [⟨tg, iter, ifs, 0⟩] scope pos) 0 it acc env) R s := by
  refine codeAny_loop rfl I (fun n s hI => ?_) n h
  show wpAny _ A ((compTurn (.ListComp elt [⟨tg, iter, ifs, 0⟩] scope pos) 0 it acc env).onRaise (fun x => do noteFrame x env; theTreesLotGoes x)) _ _ s
  refine wpAny_noted ?_
  rw [compTurn_list]
  refine wpAny_bind (wpAny_standAt (wpAny_bind (wpAny_mono (turn n s hI) (fun r s₁ h₁ => ?_) fun _ _ h' => h'.elim)))
  cases r with
  | none => exact wpAny_pure h₁
  | some v =>
    refine wpAny_bind (wpAny_mono h₁ (fun _ s₁' h₁' => ?_) fun _ _ h' => h'.elim)
    refine wpAny_bind (wpAny_mono h₁' (fun _ s₂ h₂ => wpAny_bind (wpAny_mono h₂ (fun ok s₃ h₃ => ?_) fun _ _ h' => h'.elim)) fun _ _ h' => h'.elim)
    cases ok with
    | false => exact wpAny_pure ⟨rfl, h₃⟩
    | true =>
      exact wpAny_bind (wpAny_bind (wpAny_mono h₃ (fun x s₄ h₄ => wpAny_bind (wpAny_mono h₄ (fun _ s₅ h₅ => wpAny_pure (wpAny_pure ⟨rfl, h₅⟩)) fun _ _ h' => h'.elim)) fun _ _ h' => h'.elim))
noncomputable def GKeep (n : Nat) (g : TG) : Prop := ∀ x σ H Q, g x σ H Q → g x σ H fun σ' H' => (∀ k, n ≤ k → σ'[k]? = σ[k]?) ∧ Q σ' H'
theorem gk_name {n i : Nat} (h : i < n) : GKeep n (gName i) := fun x σ H Q q => ⟨fun k hk => List.getElem?_set_ne (by omega), q⟩
theorem comp_run {tg elt iter : Expr} {ifs : List Expr} {pos : Pos} {g : TG} {tt : TT} {te : TE} (hc : X.calm = true) (S : CompS X scope xs fr) (hjs : js.map (fun j => X.N[j]?) = fr.map some)
    (hg : ∀ C ex s₀ H₀, PG (cxC X scope xs fr C ex s₀ H₀) tg g) (hk : GKeep xs.length g) (hi : ∀ C ex s₀ H₀, PIf (cxC X scope xs fr C ex s₀ H₀) ifs tt) (he : ∀ C ex s₀ H₀, PE (cxC X scope xs fr C ex s₀ H₀) elt te)
    {s2 : Shared} {H1 : Hp} {R : Value → Addr → Result → Shared → Prop} {Q : VK} {it : Addr} {tn : Nat → Heap → Prop} {J : It} (I : Inv X pins σ H1 s2) (T : Turn X.prog X.w X.K tg J fp it tn) (st : tn 0 s2.heap) (hfp : ∀ b ∈ fp, FpOk X pins H1 b)
    (hq : ∀ p, H1 p = none → ∃ W : Nat → Nat → Hp → Prop, (∃ m, W 0 m (upd H1 p (.lst []))) ∧ ∀ i m H, W i m H →
      (J.stop i H ∧ Q (.ref p) H) ∨ (J.go i H ∧ ∃ N : Hp → Prop, (∀ H', N H' → ∃ m', m' < m ∧ W (i + 1) m' H') ∧
        ∀ x H', J.yld i H x H' → g x (List.replicate xs.length none ++ pick σ js) H' fun σ2 H2 => tt σ2 H2 fun b H3 =>
          if b = true then te σ2 H3 fun y H4 => ∃ acc, H4 p = some (.lst acc) ∧ acc.length < sizeLine ∧ N (upd H4 p (.lst (acc ++ [y]))) else N H3))
    (hR : ∀ (p C : Addr) (s' : Shared) (H' : Hp), (∃ m, s'.heap.Ns C m) → FpOk X pins H' C → Inv X pins σ H' s' → Q (.ref p) H' → R (.ref p) C (.ok .next) s') :
    wpAny (model X.prog X.w) X.A (newList []) (fun acc s₃ => wpAny (model X.prog X.w) X.A (newFunctionEnv scope X.env.globals (clOf X.env scope.names []) [] X.env.qual none .none (some X.env)) (fun cenv s₄ =>
      codeAny (model X.prog X.w) X.A (.compStart (.ListComp elt [⟨tg, iter, ifs, 0⟩] scope pos) 0 (.ref it) acc { cenv with scope := relabel scope X.env }) (R acc cenv.locals) s₄) X.xe s₃) X.xe s2 := by
  refine wpAny_newObj_type ?_ (by show 0 ≤ sizeLine; exact Nat.zero_le _)
  have hn0 : H1 s2.heap.objs.size = none := I.hok.fresh (Nat.le_refl _)
  have I3 : Inv X pins σ (upd H1 s2.heap.objs.size (.lst [])) { s2 with heap := s2.heap.push { cls := .type "list", data := .seq ([] : List Value).toArray } } := I.laid (t' := s2.toks) (fun b u e => Heap.get?_push_of_some _ e) (Nat.le_refl _) ⟨Nat.zero_le _, [], 0, .nil, Heap.get?_push_size _ rfl⟩
  obtain ⟨W, ⟨m0, w0⟩, turn⟩ := hq _ hn0
  have hob : ∀ b ∈ fp, ∃ o, s2.heap.get? b = some o := fun b hb => let ⟨o, e, _⟩ := T.obj _ _ st b hb; ⟨o, e⟩
  have hfp3 : ∀ b ∈ fp, FpOk X pins (upd H1 s2.heap.objs.size (.lst [])) b := fun b hb => by
    obtain ⟨f0, f⟩ := hfp b hb
    obtain ⟨o, e⟩ := hob b hb
    exact ⟨by rw [upd_ne (Nat.ne_of_lt (Heap.lt_size e))]; exact f0, f⟩
  have hob3 : ∀ b ∈ fp, ∃ o, (s2.heap.push { cls := .type "list", data := .seq ([] : List Value).toArray }).get? b = some o := fun b hb => let ⟨o, e⟩ := hob b hb; ⟨o, Heap.get?_push_of_some _ e⟩
  have st3 : tn 0 (s2.heap.push { cls := .type "list", data := .seq ([] : List Value).toArray }) := T.keep _ _ _ st fun b _ o e => Heap.get?_push_of_some _ e
  generalize hs3 : ({ s2 with heap := s2.heap.push { cls := .type "list", data := .seq ([] : List Value).toArray } } : Shared) = s3 at I3 ⊢
  have st3' : tn 0 s3.heap := by rw [← hs3]; exact st3
  have hob3' : ∀ b ∈ fp, ∃ o, s3.heap.get? b = some o := by rw [← hs3]; exact hob3
  generalize hH3 : upd H1 s2.heap.objs.size (.lst []) = H3 at I3 hfp3 w0
  generalize hp0 : s2.heap.objs.size = p0 at turn ⊢
  refine new_block fun h₁ hns₁ hkp₁ hco₁ => ?_
  have I4 := block_in (t' := s3.toks) S hjs I3 hfp3 hob3' hns₁ hkp₁ hco₁
  have st4 : tn 0 h₁ := T.keep _ _ _ st3' fun b hb o e => hkp₁ b o e
  have loop : ∀ s₄ : Shared, Inv (cxC X scope xs fr s3.heap.objs.size fp s3 H3) [] (List.replicate xs.length none ++ pick σ js) H3 s₄ → tn 0 s₄.heap →
      codeAny (model X.prog X.w) X.A (.compLoop (.ListComp elt [⟨tg, iter, ifs, 0⟩] scope pos) 0 (.ref it) (.ref p0) (compEnvC scope (cellsFrom (s3.heap.objs.size + 1) scope.names (clOf X.env scope.names [])) s3.heap.objs.size X.env)) (R (.ref p0) s3.heap.objs.size) s₄ := by
    intro s₄ I4 st4
    have stat : ∀ {H' : Hp}, (∀ b ∈ fp, H' b = none) → ∀ b ∈ fp, FpOk (cxC X scope xs fr s3.heap.objs.size fp s3 H3) [] H' b := fun {H'} hn b hb => by
      obtain ⟨f0, f1, f2, f3, f4, f5⟩ := hfp3 b hb
      obtain ⟨o, e⟩ := hob3' b hb
      refine ⟨hn b hb, Nat.ne_of_lt (Heap.lt_size e), I4.ok.exfs b hb, .inl hb, fun x c h => (I4.ok.exf b hb).2 x c h, fun p hp => absurd (show p ∈ ([] : List (Addr × Obj)) from hp) (by simp)⟩
    refine comp_loop (fun n s' => ∃ i H', Inv (cxC X scope xs fr s3.heap.objs.size fp s3 H3) [] (List.replicate xs.length none ++ pick σ js) H' s' ∧ tn i s'.heap ∧ (∀ b ∈ fp, H' b = none) ∧ W i n H') ?_ m0 ⟨0, H3, I4, st4, fun b hb => (hfp3 b hb).1, w0⟩
    rintro n s5 ⟨i, H5, I5, st5, fr5, w5⟩
    rcases turn i n H5 w5 with ⟨stop, qn⟩ | ⟨go, N, hN, step⟩
    · refine thn (T.done (cxC X scope xs fr s3.heap.objs.size fp s3 H3) rfl rfl rfl hc i [] s5 _ H5 (fun _ _ => False) I5 (stat fr5) st5 stop) fun r s6 ⟨hr, I6⟩ => ?_
      subst hr
      obtain ⟨m6, n6, _⟩ := id I6.loc
      exact hR p0 s3.heap.objs.size s6 H5 ⟨m6, n6⟩ (I3.fpOk (Nat.le_refl _) I6.free) (block_out I3 hfp3 I6 (Heap.SameBut.refl ..)) qn
    · refine thn (T.item (cxC X scope xs fr s3.heap.objs.size fp s3 H3) rfl rfl rfl hc i [] s5 _ H5 (fun _ _ => False) I5 (stat fr5) st5 go) fun r s6 ⟨u, hr, h6⟩ => ?_
      subst hr
      refine thn h6 fun _ s7 ⟨x, H7, I7, r7, y7, st7, fr7⟩ => ?_
      have I7' := I7.pinned (stat fr7) (T.obj _ _ st7)
      refine thn (hg _ _ _ _ _ s7 _ H7 x u _ I7' r7 (hk _ _ _ _ (step x H7 y7))) fun _ s8 ⟨σ8, H8, I8, kp8, q8⟩ => ?_
      have again : ∀ {s9 : Shared} {H9 : Hp}, Inv (cxC X scope xs fr s3.heap.objs.size fp s3 H3) ([] ++ pinsAt fp s7.heap) σ8 H9 s9 → N H9 →
          ∃ m, m < n ∧ ∃ i H', Inv (cxC X scope xs fr s3.heap.objs.size fp s3 H3) [] (List.replicate xs.length none ++ pick σ js) H' s9 ∧ tn i s9.heap ∧ (∀ b ∈ fp, H' b = none) ∧ W i m H' := fun {s9 H9} I9 n9 => by
        obtain ⟨m', hm, w9⟩ := hN H9 n9
        refine ⟨m', hm, i + 1, H9, I9.unpinned.weak ?_ ?_, T.keep _ _ _ st7 fun b hb o e => (I9.pin (b, o) (List.mem_append_right _ (List.mem_append_right _ (mem_pinsAt hb e)))).1, fun b hb => ?_, w9⟩
        · rw [I9.len, I5.len]
        · intro k v hkv
          by_cases hx : k < xs.length
          · rw [List.getElem?_append_left (by rw [List.length_replicate]; exact hx), List.getElem?_replicate, if_pos hx] at hkv
            cases hkv
          · rw [kp8 k (Nat.le_of_not_lt hx)]
            exact hkv
        · obtain ⟨o, e, d⟩ := T.obj _ _ st7 b hb
          exact (I9.pin (b, o) (List.mem_append_right _ (List.mem_append_right _ (mem_pinsAt hb e)))).2.1
      refine wpAny_mono (hi _ _ _ _ _ s8 σ8 H8 _ (fun _ _ => False) (fun _ _ z => z) I8 q8) (fun ok s9 ⟨H9, I9, q9⟩ => ?_) fun _ _ z => z
      cases ok with
      | false =>
        rw [if_neg Bool.false_ne_true]
        rw [if_neg Bool.false_ne_true] at q9
        exact again I9 q9
      | true =>
        rw [if_pos rfl]
        rw [if_pos rfl] at q9
        refine thn (he _ _ _ _ _ s9 σ8 H9 _ I9 q9) fun uy s10 ⟨y, H10, I10, r10, acc, hacc, hz, n10⟩ => ?_
        refine thn (mt_append _ s10 σ8 H10 (.ref p0) [y] (.ref p0) [uy] (fun _ H11 => N H11) I10 rfl (.cons r10 .nil) ⟨p0, acc, y, rfl, rfl, hacc, hz, n10⟩) fun _ s11 ⟨_, H11, I11, _, n11⟩ => ?_
        exact again I11 n11
  exact codeAny_compStart_list (loop _ I4 st4) (T.self _ _ _ _ _ st4 (loop _ I4 st4))
theorem Inv.letgo {C : Addr} {h'' : Heap} (I : Inv X pins σ H s) (f : FpOk X pins H C) (hs : Heap.SameBut C s.heap h'') : Inv X pins σ H { s with heap := h'' } := by
  obtain ⟨f0, f1, f2, f3, f4, f5⟩ := f
  exact I.turned (t' := s.toks) (fun b o hb e => (hs.2 b hb).trans e) f0 f1 f3 f4 f5
theorem pe_comp {tg elt iter : Expr} {ifs : List Expr} {pos : Pos} {wi : TI} {g : TG} {tt : TT} {te : TE} (xs fr : List Str) (js : List Nat) (hc : X.calm = true) (hS : compOk X.env.scope scope xs fr = true) (hjs : js.map (fun j => X.N[j]?) = fr.map some) (hw : PI X tg iter wi)
    (hg : ∀ C ex s₀ H₀, PG (cxC X scope xs fr C ex s₀ H₀) tg g) (hk : GKeep xs.length g) (hi : ∀ C ex s₀ H₀, PIf (cxC X scope xs fr C ex s₀ H₀) ifs tt) (he : ∀ C ex s₀ H₀, PE (cxC X scope xs fr C ex s₀ H₀) elt te)
    (hs : ∀ x, foldedSetIterable iter X.env x = pure x := by intro _; with_unfolding_all rfl) :
    PE X (.ListComp elt [⟨tg, iter, ifs, 0⟩] scope pos) (tComp xs.length js wi g tt te) := by
  intro pins s σ H Q I h
  have S := compS_of hS
  rw [eval_ListComp]
  refine wpAny_comprehension_free (use := none) rfl hs (closure_is (S.cells I.ok)) S.kind S.names ?_
  refine thn (hw pins s σ H _ I h) fun v s1 h1 => thn h1 fun itv s2 h2 => ?_
  obtain ⟨it, fp, tn, J, H2, e, I2, T, st2, f2, q2⟩ := h2
  subst e
  refine comp_run (Q := Q) (R := fun acc C => compPost (model X.prog X.w) X.A X.xe none (EP X pins σ Q) acc C) hc S hjs hg hk hi he I2 T st2 f2 q2 ?_
  intro p C s' H' ⟨m, hn⟩ fC hI q
  exact ⟨m, hn, fun h'' hs'' => ⟨.ref p, H', hI.letgo fC hs'', rfl, q⟩⟩
theorem ps_setcomp {tg elt iter : Expr} {ifs : List Expr} {pos spos py : Pos} {wi : TI} {g : TG} {tt : TT} {te : TE} {i : Nat} {y : Str} (xs fr : List Str) (js : List Nat) (hc : X.calm = true) (hS : compOk X.env.scope scope xs fr = true) (hjs : js.map (fun j => X.N[j]?) = fr.map some)
    (hN : X.N.Nodup) (hi' : X.N[i]? = some y) (hy : X.env.scope.names.lookup y = some .local) (hw : PI X tg iter wi)
    (hg : ∀ C ex s₀ H₀, PG (cxC X scope xs fr C ex s₀ H₀) tg g) (hk : GKeep xs.length g) (hi : ∀ C ex s₀ H₀, PIf (cxC X scope xs fr C ex s₀ H₀) ifs tt) (he : ∀ C ex s₀ H₀, PE (cxC X scope xs fr C ex s₀ H₀) elt te)
    (hsw : swapsWith (.ListComp elt [⟨tg, iter, ifs, 0⟩] scope pos) (some (.Name y py)) spos.line X.env = pure true := by with_unfolding_all rfl)
    (hs : ∀ x, foldedSetIterable iter X.env x = pure x := by intro _; with_unfolding_all rfl) :
    PS X (.Assign [.Name y py] (.ListComp elt [⟨tg, iter, ifs, 0⟩] scope pos) spos) (tAsg (tComp xs.length js wi g tt te) (gName i)) := by
  intro pins s σ H D I h
  have S := compS_of hS
  rw [exec_Assign_Name_used _ _ _ _ hsw]
  refine wpAny_bind (wpAny_standAt (wpAny_bind ?_))
  show wpAny _ X.A (do let _ ← comprehension (.ListComp elt [⟨tg, iter, ifs, 0⟩] scope pos) scope X.env _ (newList []) false (eval iter X.env) (some (assign (.Name y py) X.env))) _ _ s
  refine wpAny_bind (wpAny_mono (wpAny_comprehension_free (use := some (assign (.Name y py) X.env)) (Q := fun _ s' => SP X pins D .next s') rfl hs (closure_is (S.cells I.ok)) S.kind S.names ?_) (fun _ s' hq => wpAny_pure (wpAny_pure hq)) fun _ _ e => e)
  refine thn (hw pins s σ H _ I h) fun v s1 h1 => thn h1 fun itv s2 h2 => ?_
  obtain ⟨it, fp, tn, J, H2, e, I2, T, st2, f2, q2⟩ := h2
  subst e
  refine comp_run (Q := fun x H1 => gName i x σ H1 D.nx) (R := fun acc C => compPost (model X.prog X.w) X.A X.xe (some (assign (.Name y py) X.env)) (fun _ s' => SP X pins D .next s') acc C) hc S hjs hg hk hi he I2 T st2 f2 q2 ?_
  intro p C s' H' ⟨m, hn⟩ fC I' q
  show wpAny _ X.A (assign (.Name y py) X.env (.ref p)) _ _ s'
  refine wpAny_assign_Name (store_ok2 I' hN hi' (.inl hy) (show RelV (.ref p) (.ref p) from rfl) (fun s'' I'' ⟨a, hs1, ha⟩ => ?_) (.inr hy))
  have hne : C ≠ a := by
    rcases ha with ha | ha
    · rw [ha]; exact fC.2.1
    · exact (fC.2.2.2.2.1 y a ha).symm
  exact ⟨m, hn.sameBut hs1 hne, fun h'' hs'' => ⟨_, H', I''.letgo fC hs'', q⟩⟩
end
end L2
set_option Elab.async false
set_option linter.all false
set_option maxRecDepth 100000
set_option maxHeartbeats 4000000
namespace L2
open PySem PySem.Spec PyProof.Rows
noncomputable def Its (x : Str) : It := ⟨fun i _ => i < x.cps.size, fun i H v H' => H' = H ∧ ∃ c, x.cps[i]? = some c ∧ v = .str ⟨#[c]⟩, fun i _ => x.cps.size ≤ i⟩
section
variable {X : Cx} {tg : Expr}
theorem turn_of {P : Program} {w : World} {K : PySem.W.Frag} {tg : Expr} {it : Addr} {n : Nat} {PV : Nat → Value → Prop} {val : Nat → V → Prop} {St : Nat → Heap → Prop} (W : ∀ A : Around, A.handled = none → Walks P w A it [it] [it] n PV St)
    (hself : ∀ (A : Around) (i : Nat) (s : Shared) (Q : Value → Shared → Prop) (E : Value → Shared → Prop), St i s.heap → Q (.ref it) s → wpAny (model P w) A (pyIter (.ref it)) Q E s)
    (hv : ∀ i u, PV i u → ∃ v, RelV v u ∧ val i v) (hto : ∀ i h, St i h → ∃ o T vs, h.get? it = some o ∧ o.cls = .type T ∧ o.data = .fields vs ∧ ["enumerate", "zip", "dict_itemiterator", "dict_reverseitemiterator", "odict_iterator", "itertools.zip_longest", "itertools.pairwise"].contains T = false) :
    Turn P w K tg ⟨fun i _ => i < n, fun i H v H' => H' = H ∧ val i v, fun i _ => n ≤ i⟩ [it] it (fun i h => St i h ∧ i ≤ n) where
  mem := by simp
  obj := fun i h st b hb => by
    have e : b = it := by simpa using hb
    subst e
    obtain ⟨o, T, vs, e1, e2, e3, e4⟩ := hto i h st.1
    exact ⟨o, e1, fun v z => by rw [e3] at z; cases z⟩
  keep := fun i h h' st k => ⟨(W { handled := none } rfl).frame i h h' st.1 k, st.2⟩
  item := by
    intro X hP hw hK hc i pins s σ H E I hf st hg
    subst hP hw hK
    obtain ⟨f0, f1, f2, f3, f4, f5⟩ := hf it (by simp)
    refine (W X.A (I.ok.hd hc)).item i s _ _ hg st.1 fun u h' tk hp st' kk => ?_
    obtain ⟨v, rv, vv⟩ := hv i u hp
    have I1 : Inv X pins σ H { s with heap := h', toks := tk } := I.turned (fun b o hb e => kk b o (by simpa using hb) e) f0 f1 f3 f4 f5
    obtain ⟨o, T, vs, e1, e2, e3, e4⟩ := hto _ _ st'
    exact ⟨u, rfl, go_of (s := { s with heap := h', toks := tk }) e1 e2 e3 e4 ⟨v, H, I1, rv, ⟨rfl, vv⟩, ⟨st', hg⟩, fun b hb => (hf b hb).1⟩⟩
  done := by
    intro X hP hw hK hc i pins s σ H E I hf st hg
    subst hP hw hK
    obtain ⟨f0, f1, f2, f3, f4, f5⟩ := hf it (by simp)
    have e : i = n := Nat.le_antisymm st.2 hg
    subst e
    exact (W X.A (I.ok.hd hc)).done s _ _ st.1 fun h' tk kk => ⟨rfl, I.turned (fun b o hb e => kk b o (by simpa using hb) e) f0 f1 f3 f4 f5⟩
  self := fun A i s Q E st h => hself A i s Q E st.1 h
theorem it_str {pins : List (Addr × Obj)} {σ : St} {H1 : Hp} {s1 : Shared} {R : It → Hp → Prop} {E : Value → Shared → Prop} {z : Str} {v : Value} (I1 : Inv X pins σ H1 s1) (r1 : RelV (.str z) v) (q : R (Its z) H1) : wpAny (model X.prog X.w) X.A (pyIter v) (PIE X pins σ tg R) E s1 := by
  obtain ⟨t, rfl⟩ := r1
  have sv : ∀ i u, SignAt z i u → ∃ v, RelV v u ∧ ∃ c, z.cps[i]? = some c ∧ v = .str ⟨#[c]⟩ := fun i u ⟨c, tu, hc, hu⟩ => ⟨.str ⟨#[c]⟩, ⟨tu, hu⟩, c, hc, rfl⟩
  have fin : ∀ (o : Obj) (St : Nat → Heap → Prop) (n : Nat), St 0 (s1.heap.push o) → Turn X.prog X.w X.K tg (Its z) [s1.heap.objs.size] s1.heap.objs.size (fun i h => St i h ∧ i ≤ z.cps.size) → PIE X pins σ tg R (.ref s1.heap.objs.size) { s1 with heap := s1.heap.push o } := fun o St n h0 T => by
    refine ⟨s1.heap.objs.size, [s1.heap.objs.size], _, _, H1, rfl, I1.kept (t' := s1.toks) fun b ob e => Heap.get?_push_of_some _ e, T, ⟨h0, Nat.zero_le _⟩, fun b hb => ?_, q⟩
    have e : b = s1.heap.objs.size := by simpa using hb
    subst e
    exact I1.fpOk (Nat.le_refl _) (I1.hok.fresh (Nat.le_refl _))
  cases ha : z.cps.all (· < 128)
  · exact wpAny_pyIter_wide ha (fin _ _ 0 ⟨_, Heap.get?_push_size _ rfl, rfl, rfl⟩ (turn_of (fun A hA => Walks.strWide hA _ z t) (fun _ _ _ _ _ st hq => wpAny_pyIter_striter_wide st hq) sv fun i h ⟨o, ho, hc, hd⟩ => ⟨o, _, _, ho, hc, hd, by decide⟩))
  · exact wpAny_pyIter_ascii ha (fin _ _ 0 ⟨_, Heap.get?_push_size _ rfl, rfl, rfl⟩ (turn_of (fun A hA => Walks.strAscii hA _ z t) (fun _ _ _ _ _ st hq => wpAny_pyIter_striter_ascii st hq) sv fun i h ⟨o, ho, hc, hd⟩ => ⟨o, _, _, ho, hc, hd, by decide⟩))
end
section
variable {X : Cx}
noncomputable def rSlS : V → Option Int → Option Int → Hp → VK → Prop := fun x lo hi H Q => ∃ z, x = .str z ∧ z.length ≤ sizeLine ∧ Q (.str (Txt.slice z lo hi)) H
theorem sl_str : SlR X rSlS := by
  intro pins s σ H x v vl vu lo hi sl Q I rx hs pl pu h
  obtain ⟨z, rfl, hz, q⟩ := h
  obtain ⟨t, rfl⟩ := rx
  have fin : ∀ t' k, EP X pins σ Q (.str (Txt.slice z lo hi) t') { s with toks := k } := fun t' k => ⟨.str _, H, I.tok _, ⟨_, rfl⟩, q⟩
  have sz := Nat.le_trans (Txt.slice_le z lo hi) hz
  refine ⟨"str", _, F.slot_str_getitem.lookup, typeIs_str _ _ _, ?_⟩
  cases pl with
  | none =>
    cases pu with
    | none => exact wpAny_getItem_str_slice (l := none) (u := none) (st := none) hs rfl (post_val_or_str ⟨sz, fin⟩)
    | int j uj => exact wpAny_getItem_str_slice (l := none) (u := some (j, uj)) (st := none) hs rfl (post_val_or_str ⟨sz, fin⟩)
  | int i ui =>
    cases pu with
    | none => exact wpAny_getItem_str_slice (l := some (i, ui)) (u := none) (st := none) hs rfl (post_val_or_str ⟨sz, fin⟩)
    | int j uj => exact wpAny_getItem_str_slice (l := some (i, ui)) (u := some (j, uj)) (st := none) hs rfl (post_val_or_str ⟨sz, fin⟩)
theorem strs_of : ∀ {ys : List Str} {us : List Value}, Vals (ys.map V.str) us → StrsAre us ys
  | [], _, .nil => .nil
  | y :: ys, _, .cons r t => by
    obtain ⟨tk, rfl⟩ := r
    exact .cons y tk (strs_of t)
noncomputable def rJoin (K : PySem.W.Frag) : V → List V → Hp → VK → Prop := fun x vs H Q => ∃ (z : Str) (a : Addr) (ys : List Str), x = .str z ∧ vs = [.ref a] ∧ SqL K H a (ys.map V.str) ∧ (ys.map (·.length)).sum + ys.length * z.length ≤ 16777216 ∧ Q (.str (Txt.join z ys)) H
theorem mt_join : MtR X "str.join" (rJoin X.K) := by
  intro pins s σ H x vs v us Q I rx rv h
  obtain ⟨z, a, ys, rfl, rfl, hl, hz, q⟩ := h
  obtain ⟨t, rfl⟩ := rx
  obtain ⟨u, rfl, ru⟩ := rv.one
  cases ru
  obtain ⟨its, r, pl, _⟩ := I.list hl
  exact join_list pl.isList (by simpa using strs_of r) hz fun t' k => ⟨.str _, H, I.tok _, ⟨_, rfl⟩, q⟩
theorem call_reprS : CallR X (.builtin "repr") (fun xs H Q => (∃ b, xs = [.bl b] ∧ Q (.str (if b then "True" else "False")) H) ∨ (xs = [.non] ∧ Q (.str "None") H)) := by
  intro pins s σ H xs us Q I r h
  rcases h with ⟨b, rfl, q⟩ | ⟨rfl, q⟩
  · obtain ⟨u, rfl, ru⟩ := vals1 r
    cases ru
    exact PySem.P.repr_of_bool ⟨.str _, H, I.tok _, ⟨_, rfl⟩, q⟩
  · obtain ⟨u, rfl, ru⟩ := vals1 r
    cases ru
    exact PySem.P.repr_of_none ⟨.str _, H, I.tok _, ⟨_, rfl⟩, q⟩
theorem call_isinst : CallR X (.builtin "isinstance") (fun xs H Q => ∃ x c t b, xs = [x, .ty c] ∧ TyOf X.K H x t ∧ PySem.W.kitOne X.K t (.type c) = some b ∧ Q (.bl b) H) := by
  intro pins s σ H xs us Q I r h
  obtain ⟨x, c, t, b, rfl, ty, e, q⟩ := h
  obtain ⟨u, w', rfl, r1, r2⟩ := vals2 r
  cases r2
  exact isinst_ok I r1 ty e fun tk => ⟨.bl _, H, I.tok _, rfl, q⟩
theorem call_isinstR : CallR X (.builtin "isinstance") (fun xs H Q => ∃ x c t b, xs = [x, .ref c] ∧ TyOf X.K H x t ∧ PySem.W.kitOne X.K t (.ref c) = some b ∧ Q (.bl b) H) := by
  intro pins s σ H xs us Q I r h
  obtain ⟨x, c, t, b, rfl, ty, e, q⟩ := h
  obtain ⟨u, w', rfl, r1, r2⟩ := vals2 r
  cases r2
  exact isinst_ok I r1 ty e fun tk => ⟨.bl _, H, I.tok _, rfl, q⟩
theorem call_isinstQ : CallR X (.builtin "isinstance") (fun xs H Q => ∃ a ys c b, xs = [V.ref a, .ty c] ∧ ((SqT X.K H a ys ∧ PySem.W.kitOne X.K (.type "tuple") (.type c) = some b) ∨ (SqL X.K H a ys ∧ PySem.W.kitOne X.K (.type "list") (.type c) = some b)) ∧ Q (.bl b) H) := by
  intro pins s σ H xs us Q I r h
  obtain ⟨a, ys, c, b, rfl, ty, q⟩ := h
  obtain ⟨u, w', rfl, r1, r2⟩ := vals2 r
  cases r2
  cases r1
  rcases ty with ⟨ty, e⟩ | ⟨ty, e⟩
  · obtain ⟨its, _, p, _⟩ := I.tuple ty
    obtain ⟨o, h1, h2, _⟩ := p
    exact PySem.W.kia_one PySem.W.kitx_tuple I.kIn ⟨o, h1, h2⟩ e (fun z => nomatch z) fun tk => ⟨.bl _, H, I.tok _, rfl, q⟩
  · obtain ⟨its, _, p, _⟩ := I.list ty
    obtain ⟨o, h1, h2, _⟩ := p.isList
    exact PySem.W.kia_one PySem.W.kitx_list I.kIn ⟨o, h1, h2⟩ e (fun z => nomatch z) fun tk => ⟨.bl _, H, I.tok _, rfl, q⟩
theorem bools_at {bs : List Bool} {its : List Value} (r : Vals (bs.map V.bl) its) (i : Nat) (v : Value) (h : its[i]? = some v) : ∃ b, bs[i]? = some b ∧ v = .bool b := by
  have hl := r.length
  have hi : i < its.length := (List.getElem?_eq_some_iff.mp h).1
  have hb : i < bs.length := by rw [List.length_map] at hl; omega
  obtain ⟨u, hu, ru⟩ := r.get (i := i) (x := .bl bs[i]) (by rw [List.getElem?_map, List.getElem?_eq_getElem hb]; rfl)
  rw [h] at hu
  cases hu
  exact ⟨bs[i], List.getElem?_eq_getElem hb, ru⟩
theorem range_all (bs : List Bool) : (List.range bs.length).all (fun i => (bs[i]?).getD false) = bs.all id := by
  rw [Bool.eq_iff_iff, List.all_eq_true, List.all_eq_true]
  constructor
  · intro h b hb
    obtain ⟨i, hi, e⟩ := List.mem_iff_getElem.mp hb
    have := h i (List.mem_range.mpr hi)
    rw [List.getElem?_eq_getElem hi] at this
    rw [← e]
    exact this
  · intro h i hi
    rw [List.getElem?_eq_getElem (List.mem_range.mp hi)]
    exact h _ (List.getElem_mem _)
theorem call_all (hc : X.calm = true) : CallR X (.builtin "all") (fun xs H Q => ∃ (a : Addr) (bs : List Bool), xs = [.ref a] ∧ SqL X.K H a (bs.map V.bl) ∧ Q (.bl (bs.all id)) H) := by
  intro pins s σ H xs us Q I r h
  obtain ⟨a, bs, rfl, hl, q⟩ := h
  obtain ⟨u, rfl, ru⟩ := vals1 r
  cases ru
  obtain ⟨its, rv, pl, hz⟩ := I.list hl
  have hlen := rv.length
  have hne : a ≠ s.heap.objs.size := by obtain ⟨o, n, ho, _⟩ := pl; exact Nat.ne_of_lt (Heap.lt_size ho)
  refine call_all_walk (wpAny_pyIter_list pl.isList ?_)
  refine ⟨_, _, _, _, _, _, fun i => (bs[i]?).getD false, rfl, Walks.list (A := X.A.in1) (I.ok.hd hc) _ a hne its.toArray, ⟨⟨_, Heap.get?_push_size _ rfl, rfl, rfl⟩, pl.isList.at fun o e => Heap.get?_push_of_some _ e⟩, fun i v s' Q' E' hp hq => ?_, fun h' tk hk => ?_⟩
  · obtain ⟨b, hb, rfl⟩ := bools_at rv i v (by simpa using hp)
    dsimp only at hq; rw [hb] at hq
    exact wpAny_truthy_bool hq
  · refine ⟨.bl _, H, I.kept (t' := tk) fun b ob e => hk b ob (fun hm => absurd (Heap.lt_size e) (by rw [show b = s.heap.objs.size by simpa using hm]; exact Nat.lt_irrefl _)) (Heap.get?_push_of_some _ e), ?_, q⟩
    have e1 : its.toArray.size = bs.length := by rw [List.size_toArray, ← hlen, List.length_map]
    rw [e1, range_all]
    rfl
end
section
variable {X : Cx} {x : Str} {pos : Pos}
theorem pe_gl {v : V} (hg : Gl X x) (hm : ∃ u, X.mg x = some u ∧ RelV v u) (hd : (x == ("__debug__" : Str)) = false := by decide) : PE X (.Name x pos) (tC v) := by
  obtain ⟨u, h1, h2⟩ := hm
  exact pe_glob hg h1 h2 hd
end
section
variable {X : Cx} {K : PySem.W.Frag}
noncomputable def rCat0 (K : PySem.W.Frag) : R2 := fun x y H Q => ∃ a b ys, x = .ref a ∧ y = .ref b ∧ SqT K H a [] ∧ SqT K H b ys ∧ Q (.ref b) H
theorem op_cat0 : OpR X (binaryOp .Add) (rCat0 X.K) := by
  intro pins s σ H x y v u Q I rx ry h
  obtain ⟨a, b, ys, rfl, rfl, ha, hb, q⟩ := h
  cases rx
  cases ry
  obtain ⟨its, r1, p1, _⟩ := I.tuple ha
  obtain ⟨its2, r2, p2, _⟩ := I.tuple hb
  cases r1
  obtain ⟨⟨cls, dd, data, sl⟩, ho, hc, n, hd⟩ := id p1
  obtain ⟨⟨cls2, dd2, data2, sl2⟩, ho2, hc2, n2, hd2⟩ := id p2
  simp only at hc hd hc2 hd2
  subst hc hd hc2 hd2
  exact concat_meets ⟨_, ho, rfl⟩ ⟨_, ho2, rfl⟩ noFill_tuple_add seq_tuple_add PySem.F.slot_tuple_add PySem.F.entry_tuple_add (PySem.F.args_tuple_add_2 _ _) (tuple_addW0 a b _ _ n n2 dd dd2 sl sl2 (by simp)) ⟨ho, ho2, ⟨.ref b, H, I, rfl, q⟩⟩
noncomputable def rSlW (K : PySem.W.Frag) : V → Option Int → Option Int → Hp → VK → Prop := fun x lo hi H Q => ∃ a xs, x = .ref a ∧ SqT K H a xs ∧ (HT.sIx xs.length 0 lo = 0 ∧ HT.sIx xs.length xs.length hi = xs.length) ∧ Q (.ref a) H
theorem sl_whole : SlR X (rSlW X.K) := by
  intro pins s σ H x v vl vu lo hi sl Q I rx hs pl pu h
  obtain ⟨a, xs, rfl, hx, hw, q⟩ := h
  cases rx
  obtain ⟨its, r, ht, hz⟩ := I.tuple hx
  have hlen : its.toArray.size = xs.length := by rw [List.size_toArray]; exact r.length.symm
  refine ⟨"tuple", _, PyProof.Rows.slot_tuple_getitem.lookup, ht.typeIs, ?_⟩
  obtain ⟨os, hos, hcs, hds⟩ := id hs
  have hTs : s.TypeIs (.ref sl) "slice" := ⟨os, hos, hcs⟩
  unfold getItem
  try with_reducible refine wpAny_holding ?_
  first | refine wpAny_bind (wpAny_pure ?_) | skip
  refine wpAny_bind (wpAny_sequenceKey ht.typeIs (by decide) ?_)
  refine wpAny_bind (wpAny_callSpecial?_slot (name := Str.ofString "__getitem__") ht.typeIs PyProof.Rows.slot_tuple_getitem (wpAny_call_entry PyProof.Rows.slot_tuple_getitem ht.typeIs entry_tuple_getitem ?_ (args_tuple_getitem _ _)))
  refine wpAny_bind (m := Builtin.Tuple.tupleItemsOf (.ref a)) (tupleItemsOf_ ht ?_)
  refine wpAny_bind (wpAny_typeOf hTs ?_)
  rw [if_pos (by decide)]
  refine wpAny_bind (HT.sliceApplied_gen hs pl pu ?_)
  have yes : (((HT.sIx its.toArray.size 0 lo : Nat) : Int) == 0 && (1 : Int) == 1 && (HT.sIx its.toArray.size its.toArray.size hi - HT.sIx its.toArray.size 0 lo) == its.toArray.size) = true := by
    rw [hlen, hw.1, hw.2]
    simp
  show wpAny _ _ (if (((HT.sIx its.toArray.size 0 lo : Nat) : Int) == 0 && (1 : Int) == 1 && (HT.sIx its.toArray.size its.toArray.size hi - HT.sIx its.toArray.size 0 lo) == its.toArray.size) = true then _ else _) _ _ s
  rw [if_pos yes]
  have fin : ∀ s', s' = s → EP X pins σ Q (.ref a) s' := fun s' e => by subst e; exact ⟨.ref a, H, I, rfl, q⟩
  unfold Builtin.Tuple.tupleIsExact
  obtain ⟨hp, g, d, tk, os⟩ := s
  have hT := ht.typeIs
  repeat (any_goals (first | assumption | wp_step))
  exact ⟨_, rfl, wpAny_pure (fin _ rfl)⟩
end
theorem Inv.freeze {X : Cx} {pins : List (Addr × Obj)} {σ : St} {H : Hp} {s : Shared} {d : Addr} {kvs : List (Key × V)} {o : Obj} (I : Inv X pins σ H s) (hd : H d = some (.dK kvs)) (ho : s.heap.get? d = some o) : Inv X pins σ (upd H d (.frz o (.dK kvs))) s := by
  have nn : ∀ b, H b = none → upd H d (.frz o (.dK kvs)) b = none := fun b h => by rw [upd_ne (Ne.symm (ne_of_none hd h))]; exact h
  have other : ∀ b u, H b = some u → u ≠ .dK kvs → upd H d (.frz o (.dK kvs)) b = some u := fun b u h q => by rw [upd_ne (ne_of h hd q)]; exact h
  refine ⟨I.ok, I.os, I.bare, ⟨I.base.keep, I.base.slot, fun b ob q n hx => nn b (I.base.free b ob q n hx), I.base.there, fun b xs q => other b _ (I.base.tups b xs q) (by intro z; cases z), fun b ob u q => other b _ (I.base.frzs b ob u q) (by intro z; cases z), fun b ps q => ?_⟩, I.loc, I.cell, nn _ I.free, fun x c q => nn _ (I.freeC x c q), fun p hp => ?_, fun b u q => ?_, I.len⟩
  · obtain ⟨more, h⟩ := I.base.tbls b ps q
    exact ⟨more, other b _ h (by intro z; cases z)⟩
  · obtain ⟨a1, a2, a3⟩ := I.pin p hp
    exact ⟨a1, nn _ a2, a3⟩
  · by_cases e : b = d
    · subst e
      rw [upd_same] at q
      cases q
      exact ⟨ho, (I.hok b _ hd).stay (fun c v hc z => z) (fun c z => other c _ z (by intro w; cases w)) fun c xs z => other c _ z (by intro w; cases w)⟩
    · rw [upd_ne e] at q
      exact (I.hok b u q).stay (fun c v hc z => z) (fun c z => other c _ z (by intro w; cases w)) fun c xs z => other c _ z (by intro w; cases w)
noncomputable def Itd (a : Addr) (o : Obj) (kvs : List (Key × V)) : It :=
  ⟨fun i H => H a = some (.frz o (.dK kvs)) ∧ i < kvs.length, fun i H x H' => H' = H ∧ ∃ kv, kvs[i]? = some kv ∧ x = kV kv.1, fun i H => H a = some (.frz o (.dK kvs)) ∧ kvs.length ≤ i⟩
theorem key_rel {k : Key} {u : Value} (h : keyIs k u = true) : RelV (kV k) u := by
  rcases keyIs_shape h with ⟨i, t, rfl, rfl⟩ | ⟨x, t, rfl, rfl⟩
  · exact ⟨t, rfl⟩
  · exact ⟨t, rfl⟩
theorem dict_at {X : Cx} {pins : List (Addr × Obj)} {σ : St} {H : Hp} {s : Shared} {a : Addr} {kvs : List (Key × V)} {o : Obj} {es : Array DictEntry} {ep : Nat} (I : Inv X pins σ H s) (h : H a = some (.frz o (.dK kvs))) (ho : o.data = .dict es ep) : ∃ vs, KV kvs vs ∧ s.heap.DictAt (mixKind X.prog X.w) a vs ep := by
  obtain ⟨h1, _, _, vs, r, o', es', ep', h2, c, hd, rest⟩ := I.hok a _ h
  rw [h1] at h2
  cases h2
  rw [ho] at hd
  cases hd
  exact ⟨vs, r, o, es, h1, c, ho, rest⟩
theorem KV.get : ∀ {kvs : List (Key × V)} {vs : List (Key × Value)} {i : Nat} {kv : Key × V}, KV kvs vs → kvs[i]? = some kv → ∃ u, vs[i]? = some (kv.1, u) ∧ RelV kv.2 u
  | _, _, _, _, .nil, e => by simp at e
  | _, _, 0, kv, .cons r _, e => by
    simp at e
    subst e
    exact ⟨_, congrArg some (Prod.ext r.1.symm rfl), r.2⟩
  | _, _, i + 1, kv, .cons _ t, e => by
    obtain ⟨u, h1, h2⟩ := KV.get (i := i) t (by simpa using e)
    exact ⟨u, by simpa using h1, h2⟩
theorem turn_dict {P : Program} {w : World} {K : PySem.W.Frag} {tg : Expr} (a it : Addr) (o : Obj) (kvs : List (Key × V)) (es : Array DictEntry) (ep : Nat) (hd : o.data = .dict es ep) : Turn P w K tg (Itd a o kvs) [it] it (fun i h => h.IsKeyIter it a i kvs.length ep) where
  mem := by simp
  obj := fun i h st b hb => by
    have e : b = it := by simpa using hb
    subst e
    obtain ⟨o, e, c, d⟩ := st
    exact ⟨o, e, fun v z => by rw [d] at z; cases z⟩
  keep := fun i h h' st k => st.at fun o e => k it (by simp) o e
  item := by
    intro X hP hw hK hc i pins s σ H E I hf st hg
    subst hP hw hK
    obtain ⟨hH, hi⟩ := hg
    obtain ⟨vs, rv, hat⟩ := dict_at I hH hd
    have hl : kvs.length = vs.length := Paired.length rv
    obtain ⟨kv, hkv⟩ : ∃ kv, kvs[i]? = some kv := ⟨kvs[i], List.getElem?_eq_getElem hi⟩
    obtain ⟨u, hu, _⟩ := KV.get rv hkv
    obtain ⟨f0, f1, f2, f3, f4, f5⟩ := hf it (by simp)
    rw [hl] at st
    refine wpAny_pyNext_dict_item st hat hu fun key h' hkey hit' hs' => ?_
    have I1 : Inv X pins σ H { s with heap := h' } := I.turned (t' := s.toks) (fun b o hb e => (hs'.2 b hb).trans e) f0 f1 f3 f4 f5
    obtain ⟨o', e, c, d⟩ := id hit'
    exact ⟨key, rfl, go_of (s := { s with heap := h' }) e c d (by decide) ⟨kV kv.1, H, I1, key_rel hkey, ⟨rfl, kv, hkv, rfl⟩, by rw [hl]; exact hit', fun b hb => (hf b hb).1⟩⟩
  done := by
    intro X hP hw hK hc i pins s σ H E I hf st hg
    subst hP hw hK
    obtain ⟨hH, hi⟩ := hg
    obtain ⟨vs, rv, hat⟩ := dict_at I hH hd
    have hl : kvs.length = vs.length := Paired.length rv
    obtain ⟨f0, f1, f2, f3, f4, f5⟩ := hf it (by simp)
    rw [hl] at st
    exact wpAny_pyNext_dict_end (I.ok.hd hc) st hat (List.getElem?_eq_none (by omega)) fun h' eb => ⟨rfl, I.turned (t' := s.toks) (fun b o hb e => eb b o hb e) f0 f1 f3 f4 f5⟩
  self := fun A i s Q E st hQ => wpAny_pyIter_keyiter st hQ
theorem it_dict {X : Cx} {tg : Expr} {pins : List (Addr × Obj)} {σ : St} {H : Hp} {s : Shared} {a : Addr} {kvs : List (Key × V)} {R : It → Hp → Prop} {E : Value → Shared → Prop} (I : Inv X pins σ H s) (h : H a = some (.dK kvs)) (q : ∀ o, R (Itd a o kvs) (upd H a (.frz o (.dK kvs)))) :
    wpAny (model X.prog X.w) X.A (pyIter (.ref a)) (PIE X pins σ tg R) E s := by
  obtain ⟨_, hs, vs, rv, o, es, ep, ho, c, hd, rest⟩ := I.hok a _ h
  have I1 := I.freeze h ho
  have hl : kvs.length = vs.length := Paired.length rv
  refine wpAny_pyIter_dict (knd := mixKind X.prog X.w) hs ⟨o, es, ho, c, hd, rest⟩ ?_
  rw [← hl]
  refine ⟨s.heap.objs.size, [s.heap.objs.size], _, _, _, rfl, I1.kept (t' := s.toks) fun b o e => Heap.get?_push_of_some _ e, turn_dict a _ o kvs es ep hd, ⟨_, Heap.get?_push_size _ rfl, rfl, rfl⟩, fun b hb => ?_, q o⟩
  have e : b = s.heap.objs.size := by simpa using hb
  subst e
  exact I1.fpOk (Nat.le_refl _) (I1.hok.fresh (Nat.le_refl _))
theorem it_dictF {X : Cx} {tg : Expr} {pins : List (Addr × Obj)} {σ : St} {H : Hp} {s : Shared} {a : Addr} {kvs : List (Key × V)} {o : Obj} {R : It → Hp → Prop} {E : Value → Shared → Prop} (I : Inv X pins σ H s) (h : H a = some (.frz o (.dK kvs))) (q : R (Itd a o kvs) H) :
    wpAny (model X.prog X.w) X.A (pyIter (.ref a)) (PIE X pins σ tg R) E s := by
  obtain ⟨ho', _, hs, vs, rv, o', es, ep, ho, c, hd, rest⟩ := I.hok a _ h
  rw [ho'] at ho
  cases ho
  have hl : kvs.length = vs.length := Paired.length rv
  refine wpAny_pyIter_dict (knd := mixKind X.prog X.w) hs ⟨o, es, ho', c, hd, rest⟩ ?_
  rw [← hl]
  refine ⟨s.heap.objs.size, [s.heap.objs.size], _, _, _, rfl, I.kept (t' := s.toks) fun b o e => Heap.get?_push_of_some _ e, turn_dict a _ o kvs es ep hd, ⟨_, Heap.get?_push_size _ rfl, rfl, rfl⟩, fun b hb => ?_, q⟩
  have e : b = s.heap.objs.size := by simpa using hb
  subst e
  exact I.fpOk (Nat.le_refl _) (I.hok.fresh (Nat.le_refl _))
end L2
set_option Elab.async false
set_option linter.all false
set_option maxRecDepth 100000
set_option maxHeartbeats 4000000
namespace L2
open PySem PySem.Spec PyProof.Rows
theorem Same.seqT {K : PySem.W.Frag} {H H' : Hp} {a : Addr} {xs : List V} (e : Same H H') (h : SqT K H a xs) : SqT K H' a xs := by
  rcases h with (h | ⟨o, h⟩) | h
  · exact .inl (.inl (e _ _ h))
  · exact .inl (.inr ⟨o, e _ _ h⟩)
  · exact .inr h
mutual
def Is (K : PySem.W.Frag) (H : Hp) : PyData → V → Prop
  | .none, v => v = .non
  | .bool b, v => v = .bl b
  | .int i, v => v = .int i
  | .str x, v => v = .str x
  | .list ds, v => ∃ a xs, v = .ref a ∧ SqL K H a xs ∧ IsL K H ds xs
  | .tuple ds, v => ∃ a xs, v = .ref a ∧ SqT K H a xs ∧ IsL K H ds xs
  | .dict _, _ => False
def IsL (K : PySem.W.Frag) (H : Hp) : List PyData → List V → Prop
  | [], vs => vs = []
  | d :: ds, vs => ∃ v r, vs = v :: r ∧ Is K H d v ∧ IsL K H ds r
end
mutual
theorem Is.mono {K : PySem.W.Frag} {H H' : Hp} (e : Same H H') : ∀ (d : PyData) (v : V), Is K H d v → Is K H' d v
  | .none, _, h => by simp only [Is] at h ⊢; exact h
  | .bool _, _, h => by simp only [Is] at h ⊢; exact h
  | .int _, _, h => by simp only [Is] at h ⊢; exact h
  | .str _, _, h => by simp only [Is] at h ⊢; exact h
  | .list ds, v, h => by
    simp only [Is] at h ⊢
    obtain ⟨a, xs, e1, e2, e3⟩ := h
    exact ⟨a, xs, e1, e.seq e2, IsL.mono e ds xs e3⟩
  | .tuple ds, v, h => by
    simp only [Is] at h ⊢
    obtain ⟨a, xs, e1, e2, e3⟩ := h
    exact ⟨a, xs, e1, e.seqT e2, IsL.mono e ds xs e3⟩
  | .dict _, _, h => by simp only [Is] at h
theorem IsL.mono {K : PySem.W.Frag} {H H' : Hp} (e : Same H H') : ∀ (ds : List PyData) (vs : List V), IsL K H ds vs → IsL K H' ds vs
  | [], _, h => by simp only [IsL] at h ⊢; exact h
  | d :: ds, vs, h => by
    simp only [IsL] at h ⊢
    obtain ⟨v, r, e1, e2, e3⟩ := h
    exact ⟨v, r, e1, Is.mono e d v e2, IsL.mono e ds r e3⟩
end
section
variable {X : Cx} {pins : List (Addr × Obj)} {σ : St} {H : Hp} {s : Shared}
mutual
theorem Is.reads (I : Inv X pins σ H s) : ∀ (d : PyData) (v : V) (u : Value), Is X.K H d v → RelV v u → ∃ as, Reads s.heap u d as
  | .none, v, u, i, r => by
    simp only [Is] at i
    subst i
    cases r
    exact ⟨_, .none⟩
  | .bool b, v, u, i, r => by
    simp only [Is] at i
    subst i
    cases r
    exact ⟨_, .bool b⟩
  | .int n, v, u, i, r => by
    simp only [Is] at i
    subst i
    obtain ⟨t, rfl⟩ := r
    exact ⟨_, .int n t⟩
  | .str x, v, u, i, r => by
    simp only [Is] at i
    subst i
    obtain ⟨t, rfl⟩ := r
    exact ⟨_, .str x t⟩
  | .list ds, v, u, i, r => by
    simp only [Is] at i
    obtain ⟨a, xs, rfl, e2, e3⟩ := i
    cases r
    obtain ⟨its, rv, ⟨o, n, e, hc, hd, hs⟩, _⟩ := I.list e2
    obtain ⟨as, ra⟩ := IsL.reads I ds xs its e3 rv
    exact ⟨_, .list e hc hs (by simpa using ra)⟩
  | .tuple ds, v, u, i, r => by
    simp only [Is] at i
    obtain ⟨a, xs, rfl, e2, e3⟩ := i
    cases r
    obtain ⟨its, rv, ⟨o, e, hc, n, hd⟩, _⟩ := I.tuple e2
    obtain ⟨as, ra⟩ := IsL.reads I ds xs its e3 rv
    exact ⟨_, .tuple e hc hd (by simpa using ra)⟩
  | .dict _, _, _, i, _ => by simp only [Is] at i
theorem IsL.reads (I : Inv X pins σ H s) : ∀ (ds : List PyData) (vs : List V) (us : List Value), IsL X.K H ds vs → Vals vs us → ∃ as, ReadsAll s.heap us ds as
  | [], vs, us, i, r => by
    simp only [IsL] at i
    subst i
    cases r
    exact ⟨_, .nil⟩
  | d :: ds, vs, us, i, r => by
    simp only [IsL] at i
    obtain ⟨v, rr, rfl, e2, e3⟩ := i
    cases r with
    | cons r1 r2 =>
      obtain ⟨a1, h1⟩ := Is.reads I d v _ e2 r1
      obtain ⟨a2, h2⟩ := IsL.reads I ds rr _ e3 r2
      exact ⟨_, .cons h1 h2⟩
end
end
theorem is_ints {K : PySem.W.Frag} {H : Hp} : ∀ ns : List Int, IsL K H (ns.map PyData.int) (ns.map V.int)
  | [] => by simp only [List.map_nil, IsL]
  | n :: r => by
    simp only [List.map_cons, IsL]
    exact ⟨_, _, rfl, by simp only [Is], is_ints r⟩
theorem is_strs {K : PySem.W.Frag} {H : Hp} : ∀ ns : List Str, IsL K H (ns.map PyData.str) (ns.map V.str)
  | [] => by simp only [List.map_nil, IsL]
  | n :: r => by
    simp only [List.map_cons, IsL]
    exact ⟨_, _, rfl, by simp only [Is], is_strs r⟩
theorem is_listI {K : PySem.W.Frag} {H : Hp} {a : Addr} {ns : List Int} (h : SqL K H a (ns.map V.int)) : Is K H (.list (ns.map PyData.int)) (.ref a) := by
  simp only [Is]
  exact ⟨a, _, rfl, h, is_ints ns⟩
structure QA (A : Around) : Prop where
  un : A.units + 150 < cLine
  gd : A.guards = some []
theorem qa_of {A : Around} {k : Nat} (hr : Room k A) : QA A := ⟨by have := hr.un; omega, hr.gd⟩
section
variable {X : Cx}
noncomputable def rAddA (K : PySem.W.Frag) : R2 := fun x y H Q => (∃ i j, x = .int i ∧ y = .int j ∧ Q (.int (i + j)) H) ∨ (∃ i j, x = .str i ∧ y = .str j ∧ i.length + j.length ≤ sizeLine ∧ Q (.str (i ++ j)) H) ∨ rCat x y H Q ∨ rCatT K x y H Q ∨ rCat0 K x y H Q
theorem op_addA : OpR X (binaryOp .Add) (rAddA X.K) := op_add.or (op_add_str.or (op_cat.or (op_catT.or op_cat0)))
noncomputable def rMulA : R2 := fun x y H Q => (∃ i j, x = .int i ∧ y = .int j ∧ CMul i j ∧ Q (.int (i * j)) H) ∨ rRep x y H Q
theorem op_mulA : OpR X (binaryOp .Mult) rMulA := op_mul.or op_rep
theorem op_fdivA : OpR X (binaryOp .FloorDiv) (rI CDiv fun i j => .int (i / j)) := op_fdiv
noncomputable def rEqD (K : PySem.W.Frag) (neg : Bool) : R2 := fun x y H Q => ∃ dx dy, Is K H dx x ∧ Is K H dy y ∧ SeqAt.shaped dx = true ∧ SeqAt.shaped dy = true ∧ Q (.bl (if neg then !PyData.eqv dx dy else PyData.eqv dx dy)) H
theorem op_eqD (hq : QA X.A) : OpR X (compareOp .Eq) (rEqD X.K false) := by
  intro pins s σ H x y v u Q I rx ry h
  obtain ⟨dx, dy, ix, iy, sx, sy, q⟩ := h
  obtain ⟨as, ra⟩ := Is.reads I dx x v ix rx
  obtain ⟨bs, rb⟩ := Is.reads I dy y u iy ry
  exact eq_dataH ra rb sx sy (by have := hq.un; omega) ⟨.bl _, H, I, rfl, q⟩
theorem op_neD (hq : QA X.A) : OpR X (compareOp .NotEq) (rEqD X.K true) := by
  intro pins s σ H x y v u Q I rx ry h
  obtain ⟨dx, dy, ix, iy, sx, sy, q⟩ := h
  obtain ⟨as, ra⟩ := Is.reads I dx x v ix rx
  obtain ⟨bs, rb⟩ := Is.reads I dy y u iy ry
  exact ne_dataH ra rb sx sy (by have := hq.un; omega) ⟨.bl _, H, I, rfl, q⟩
noncomputable def rEqA (K : PySem.W.Frag) : R2 := fun x y H Q => rEq x y H Q ∨ rEqD K false x y H Q
noncomputable def rNeA (K : PySem.W.Frag) : R2 := fun x y H Q => rNe x y H Q ∨ rEqD K true x y H Q
theorem op_eqA (hq : QA X.A) : OpR X (compareOp .Eq) (rEqA X.K) := op_eq.or (op_eqD hq)
theorem op_neA (hq : QA X.A) : OpR X (compareOp .NotEq) (rNeA X.K) := op_ne.or (op_neD hq)
noncomputable def rInT (neg : Bool) : R2 := fun x y H Q => ∃ i j, x = .str i ∧ y = .str j ∧ Q (.bl (if neg then !(!(Builtin.Str.occurrences j i 0 j.length 1).isEmpty) else !(Builtin.Str.occurrences j i 0 j.length 1).isEmpty)) H
noncomputable def rInD (neg : Bool) : R2 := fun x y H Q => ∃ a o, y = .ref a ∧ DGet H a x o ∧ Q (.bl (if neg then !o.isSome else o.isSome)) H
theorem op_inD (hu : X.A.units + 1 < cLine) : OpR X (compareOp .In) (rInD false) := by
  intro pins s σ H x y v u Q I rx ry h
  obtain ⟨a, o, rfl, g, q⟩ := h
  cases ry
  exact d_in hu I g rx fun s' I' => ⟨.bl _, H, I', rfl, q⟩
theorem op_notInD (hu : X.A.units + 1 < cLine) : OpR X (compareOp .NotIn) (rInD true) := by
  intro pins s σ H x y v u Q I rx ry h
  obtain ⟨a, o, rfl, g, q⟩ := h
  cases ry
  exact d_notIn hu I g rx fun s' I' => ⟨.bl _, H, I', rfl, q⟩
noncomputable def rInX (K : PySem.W.Frag) (neg : Bool) : R2 := fun x y H Q => ∃ d ds, Is K H d x ∧ (Is K H (.list ds) y ∨ Is K H (.tuple ds) y) ∧ PyData.canLayAll0 ds = true ∧ d.canLay0 = true ∧ d.depth ≤ 100 ∧ Q (.bl (if neg then !(ds.any fun e => PyData.eqv e d) else ds.any fun e => PyData.eqv e d)) H
theorem op_inX (hq : QA X.A) : OpR X (compareOp .In) (rInX X.K false) := by
  intro pins s σ H x y v u Q I rx ry h
  obtain ⟨d, ds, ix, iy, h1, h2, h3, q⟩ := h
  obtain ⟨bs, rb⟩ := Is.reads I d x v ix rx
  rcases iy with iy | iy
  · obtain ⟨as, ra⟩ := Is.reads I _ y u iy ry
    exact SeqAt.in_list_reads ra rb h1 h2 (by have := hq.un; have := Nat.min_le_right (PyData.depthAll ds) d.depth; omega) ⟨.bl _, H, I, rfl, q⟩
  · obtain ⟨as, ra⟩ := Is.reads I _ y u iy ry
    exact SeqAt.in_tuple_reads ra rb h1 h2 (by have := hq.un; have := Nat.min_le_right (PyData.depthAll ds) d.depth; omega) ⟨.bl _, H, I, rfl, q⟩
theorem op_notInX (hq : QA X.A) : OpR X (compareOp .NotIn) (rInX X.K true) := by
  intro pins s σ H x y v u Q I rx ry h
  obtain ⟨d, ds, ix, iy, h1, h2, h3, q⟩ := h
  obtain ⟨bs, rb⟩ := Is.reads I d x v ix rx
  rcases iy with iy | iy
  · obtain ⟨as, ra⟩ := Is.reads I _ y u iy ry
    exact SeqAt.notIn_list_reads ra rb h1 h2 (by have := hq.un; have := Nat.min_le_right (PyData.depthAll ds) d.depth; omega) ⟨.bl _, H, I, rfl, q⟩
  · obtain ⟨as, ra⟩ := Is.reads I _ y u iy ry
    exact SeqAt.notIn_tuple_reads ra rb h1 h2 (by have := hq.un; have := Nat.min_le_right (PyData.depthAll ds) d.depth; omega) ⟨.bl _, H, I, rfl, q⟩
noncomputable def rInA (K : PySem.W.Frag) (neg : Bool) : R2 := fun x y H Q => rIn K neg x y H Q ∨ rInT neg x y H Q ∨ rInD neg x y H Q ∨ rInX K neg x y H Q
theorem QA.hu {A : Around} (h : QA A) : A.units + 1 < cLine := by have := h.un; omega
theorem op_inA (hq : QA X.A) : OpR X (compareOp .In) (rInA X.K false) := op_in_seq.or (op_in_str.or ((op_inD hq.hu).or (op_inX hq)))
theorem op_notInA (hq : QA X.A) : OpR X (compareOp .NotIn) (rInA X.K true) := op_notIn_seq.or (op_notIn_str.or ((op_notInD hq.hu).or (op_notInX hq)))
noncomputable def rSlA (K : PySem.W.Frag) : V → Option Int → Option Int → Hp → VK → Prop := fun x lo hi H Q => rSlL K x lo hi H Q ∨ rSlT K x lo hi H Q ∨ rSlS x lo hi H Q ∨ rSlW K x lo hi H Q
theorem sl_A : SlR X (rSlA X.K) := sl_list.or (sl_tup.or (sl_str.or sl_whole))
noncomputable def rIxD : R2 := fun x y H Q => ∃ a v, x = .ref a ∧ DGet H a y (some v) ∧ Q v H
theorem ix_dict (hu : X.A.units + 1 < cLine) : IxR X rIxD := by
  intro value slice pins s σ H x y v u Q I rx ry h hs
  obtain ⟨a, z, rfl, g, q⟩ := h
  cases rx
  exact tail_any (dict_typeIs I g) PySem.F.slot_dict_getitem.lookup (d_getItem hu I g ry fun w' s' I' rw' => ⟨z, H, I', rw', q⟩) hs
noncomputable def rIxA (K : PySem.W.Frag) : R2 := fun x y H Q => rIx K x y H Q ∨ rIxD x y H Q
theorem ix_any (hu : X.A.units + 1 < cLine) : IxR X (rIxA X.K) := ix_seq.or (ix_dict hu)
noncomputable def rLenA (K : PySem.W.Frag) : List V → Hp → VK → Prop := fun xs H Q => (∃ x n, xs = [x] ∧ LenV K x H n ∧ Q (.int n) H) ∨ ∃ a kvs, xs = [V.ref a] ∧ H a = some (.dK kvs) ∧ Q (.int kvs.length) H
theorem call_lenA : CallR X (.builtin "len") (rLenA X.K) := call_len.or call_lenD
noncomputable def rIsinst (K : PySem.W.Frag) : List V → Hp → VK → Prop := fun xs H Q => (∃ x c t b, xs = [x, .ty c] ∧ TyOf K H x t ∧ PySem.W.kitOne K t (.type c) = some b ∧ Q (.bl b) H) ∨ (∃ x c t b, xs = [x, .ref c] ∧ TyOf K H x t ∧ PySem.W.kitOne K t (.ref c) = some b ∧ Q (.bl b) H) ∨ ∃ a ys c b, xs = [V.ref a, .ty c] ∧ ((SqT K H a ys ∧ PySem.W.kitOne K (.type "tuple") (.type c) = some b) ∨ (SqL K H a ys ∧ PySem.W.kitOne K (.type "list") (.type c) = some b)) ∧ Q (.bl b) H
theorem call_isinstA : CallR X (.builtin "isinstance") (rIsinst X.K) := call_isinst.or (call_isinstR.or call_isinstQ)
noncomputable def rListA (K : PySem.W.Frag) : List V → Hp → VK → Prop := fun xs H Q => ∃ p ys, xs = [.ref p] ∧ (SqL K H p ys ∨ SqT K H p ys) ∧ ∀ l, H l = none → Q (.ref l) (upd H l (.lst ys))
theorem call_listA : CallR X (.type "list") (rListA X.K) := call_list_of
noncomputable def rTupleA (K : PySem.W.Frag) : List V → Hp → VK → Prop := fun xs H Q => ∃ p ys, xs = [.ref p] ∧ ((SqL K H p ys ∧ ∀ l, H l = none → Q (.ref l) (upd H l (.tup ys))) ∨ (SqT K H p ys ∧ Q (.ref p) H))
theorem call_tupleA : CallR X (.type "tuple") (rTupleA X.K) := call_tuple_of
noncomputable def rReprA : List V → Hp → VK → Prop := fun xs H Q => (∃ b, xs = [.bl b] ∧ Q (.str (if b then "True" else "False")) H) ∨ (xs = [.non] ∧ Q (.str "None") H)
theorem call_reprA : CallR X (.builtin "repr") rReprA := call_reprS
noncomputable def rIntA : List V → Hp → VK → Prop := fun xs H Q => (∃ i, xs = [.int i] ∧ Q (.int i) H) ∨ ∃ k, xs = [.bl k] ∧ Q (.int (if k then 1 else 0)) H
theorem call_intA : CallR X (.type "int") rIntA := call_int1
noncomputable def rAllA (K : PySem.W.Frag) : List V → Hp → VK → Prop := fun xs H Q => ∃ (a : Addr) (bs : List Bool), xs = [.ref a] ∧ SqL K H a (bs.map V.bl) ∧ Q (.bl (bs.all id)) H
theorem call_allA (hc : X.calm = true) : CallR X (.builtin "all") (rAllA X.K) := call_all hc
variable {tg : Expr}
noncomputable def rAnyIt (K : PySem.W.Frag) (x : V) (H1 : Hp) (R : It → Hp → Prop) : Prop := (∃ a, x = .ref a ∧ (∃ xs, SqL K H1 a xs) ∧ R (Itl K a) H1) ∨ (∃ a, x = .ref a ∧ (∃ xs, SqT K H1 a xs) ∧ R (Itt K a) H1) ∨ (∃ z, x = .str z ∧ R (Its z) H1) ∨ ∃ a kvs, x = .ref a ∧ ((H1 a = some (.dK kvs) ∧ ∀ o, R (Itd a o kvs) (upd H1 a (.frz o (.dK kvs)))) ∨ ∃ o, H1 a = some (.frz o (.dK kvs)) ∧ R (Itd a o kvs) H1)
noncomputable def iAny (K : PySem.W.Frag) (tl : TE) : TI := fun σ H R => tl σ H fun x H1 => rAnyIt K x H1 R
theorem pi_any (hu : X.A.units + 1 < cLine) {l : Expr} {tl : TE} (hl : PE X l tl) : PI X tg l (iAny X.K tl) := by
  intro pins s σ H R I h
  refine thn (hl pins s σ H _ I h) fun v s1 ⟨x, H1, I1, r1, q1⟩ => ?_
  rcases q1 with ⟨a, e, ⟨xs, hq⟩, q⟩ | ⟨a, e, ⟨xs, hq⟩, q⟩ | ⟨z, e, q⟩ | ⟨a, kvs, e, q⟩
  · subst e
    cases r1
    obtain ⟨its, rv, p, hz⟩ := I1.list hq
    refine wpAny_pyIter_list p.isList ?_
    refine ⟨s1.heap.objs.size, [s1.heap.objs.size], _, _, H1, rfl, I1.kept (t' := s1.toks) fun b o e => Heap.get?_push_of_some _ e, turn_list a _, ⟨_, Heap.get?_push_size _ rfl, rfl, rfl⟩, fun b hb => ?_, q⟩
    have e : b = s1.heap.objs.size := by simpa using hb
    subst e
    exact I1.fpOk (Nat.le_refl _) (I1.hok.fresh (Nat.le_refl _))
  · subst e
    cases r1
    obtain ⟨its, rv, p, hz⟩ := I1.tuple hq
    refine wpAny_pyIter_tuple (show s1.heap.IsTuple a its.toArray from p) ?_
    refine ⟨s1.heap.objs.size, [s1.heap.objs.size], _, _, H1, rfl, I1.kept (t' := s1.toks) fun b o e => Heap.get?_push_of_some _ e, turn_tuple a _, ⟨_, Heap.get?_push_size _ rfl, rfl, rfl⟩, fun b hb => ?_, q⟩
    have e : b = s1.heap.objs.size := by simpa using hb
    subst e
    exact I1.fpOk (Nat.le_refl _) (I1.hok.fresh (Nat.le_refl _))
  · subst e
    exact it_str I1 r1 q
  · subst e
    cases r1
    rcases q with ⟨hd, q⟩ | ⟨o, hd, q⟩
    · exact it_dict I1 hd q
    · exact it_dictF I1 hd q
end
noncomputable def Fnd (P : Program) (w : World) (K : PySem.W.Frag) (mg : Str → Option Value) (base : Heap) (k : Nat) (x : Str) (ps : List Str) (sp : Sp) : Prop :=
  ∃ f fd, FnOk P w K mg base CX0 k f fd ps sp ∧ mg x = some (.ref f) ∧ PySem.W.keepIn K (.ref f) = true ∧ Binds K fd ps []
section
variable {X : Cx} {k : Nat} {x : Str} {ps : List Str} {sp : Sp} {e : Expr} {es : List Expr} {t : TA} {p pos : Pos}
theorem pe_fn (F : Fnd X.prog X.w X.K X.mg X.base k x ps sp) (hr : Room k X.A) (hg : Gl X x) (ha : PA X (e :: es) t) (hdb : (x == ("__debug__" : Str)) = false := by decide)
    (he : starEach (e :: es) X.env = (false, eval e X.env) :: starEach es X.env := by with_unfolding_all rfl) (hpl : (backTo pos (starEach es X.env)).any (·.1) = false := by with_unfolding_all rfl) : PE X (.Call (.Name x p) (e :: es) [] pos) (tCall sp [] E0 t) := by
  obtain ⟨f, fd, h1, h2, h3, h4⟩ := F
  exact pe_call h1 hr hg h2 h3 h4 .nil pass0 ha hdb he hpl
end
noncomputable def ExtBut (d : Addr) (H H' : Hp) : Prop := ∀ b o, b ≠ d → H b = some o → H' b = some o
theorem Same.lk {H H' : Hp} {a : Addr} {o : HO} (e : Same H H') (h : H a = some o) : H' a = some o := e a o h
theorem Same.upd {H : Hp} {p : Addr} {o : HO} (h : H p = none) : Same H (upd H p o) := fun b u e => by rw [upd_ne (ne_of_none e h)]; exact e
theorem ExtBut.upd {H : Hp} {p : Addr} {o : HO} : ExtBut p H (upd H p o) := fun b u n e => by rw [upd_ne n]; exact e
theorem ExtBut.trans {d : Addr} {H H1 H2 : Hp} (a : ExtBut d H H1) (b : ExtBut d H1 H2) : ExtBut d H H2 := fun c o n h => b c o n (a c o n h)
theorem ExtBut.same {d : Addr} {H H1 H2 : Hp} (a : ExtBut d H H1) (b : Same H1 H2) : ExtBut d H H2 := fun c o n h => b c o (a c o n h)
theorem ExtBut.after {d : Addr} {H H1 H2 : Hp} (a : Same H H1) (b : ExtBut d H1 H2) : ExtBut d H H2 := fun c o n h => b c o n (a c o h)
theorem ExtBut.refl {d : Addr} {H : Hp} : ExtBut d H H := fun _ _ _ h => h
noncomputable def rNewT (xs : List V) (H : Hp) (Q : VK) : Prop := xs.length ≤ sizeLine ∧ ∀ p, H p = none → Q (.ref p) (upd H p (.tup xs))
noncomputable def rNewL (xs : List V) (H : Hp) (Q : VK) : Prop := xs.length ≤ sizeLine ∧ ∀ p, H p = none → Q (.ref p) (upd H p (.lst xs))
noncomputable def rRng1 (vs : List V) (H : Hp) (R : It → Hp → Prop) : Prop := ∃ j : Int, vs = [.int j] ∧ -(2 ^ 62) ≤ j ∧ j < 2 ^ 62 ∧ R (Itr 0 j.toNat) H
noncomputable def rRng2 (vs : List V) (H : Hp) (R : It → Hp → Prop) : Prop := ∃ i j : Int, vs = [.int i, .int j] ∧ (-(2 ^ 62) ≤ i ∧ i < 2 ^ 62 ∧ -(2 ^ 62) ≤ j ∧ j < 2 ^ 62) ∧ R (Itr i (j - i).toNat) H
noncomputable def rFor (g : TG) (tb : TS) (D : Ends) (σ : St) (J : It) (H1 : Hp) : Prop := ∃ W : Nat → Nat → St → Hp → Prop, (∃ m, W 0 m σ H1) ∧ ∀ i m σ H, W i m σ H →
  (J.stop i H ∧ D.nx σ H) ∨ (J.go i H ∧ ∃ N : St → Hp → Prop, (∀ σ' H', N σ' H' → ∃ m', m' < m ∧ W (i + 1) m' σ' H') ∧ ∀ x H', J.yld i H x H' → g x σ H' fun σ2 H2 => tb { D with nx := N, ct := N, bk := D.nx } σ2 H2)
noncomputable def rComp (k : Nat) (js : List Nat) (g : TG) (tt : TT) (te : TE) (σ : St) (J : It) (H1 : Hp) (Q : VK) : Prop := ∀ p, H1 p = none →
  ∃ W : Nat → Nat → Hp → Prop, (∃ m, W 0 m (upd H1 p (.lst []))) ∧ ∀ i m H, W i m H →
    (J.stop i H ∧ Q (.ref p) H) ∨ (J.go i H ∧ ∃ N : Hp → Prop, (∀ H', N H' → ∃ m', m' < m ∧ W (i + 1) m' H') ∧
      ∀ x H', J.yld i H x H' → g x (List.replicate k none ++ pick σ js) H' fun σ2 H2 => tt σ2 H2 fun b H3 =>
        if b = true then te σ2 H3 fun y H4 => ∃ acc, H4 p = some (.lst acc) ∧ acc.length < sizeLine ∧ N (upd H4 p (.lst (acc ++ [y]))) else N H3)
noncomputable def rPairs (p : Addr) (ps : List (V × V)) (H : Hp) (Q : VK) : Prop := H p = some (.dK []) ∧ ∃ kvs : List (Key × V), ps = kvs.map (fun kv => (kV kv.1, kv.2)) ∧ kvs.length ≤ 15 ∧ Q (.ref p) (upd H p (.dK (mergeK [] kvs)))
section
variable {K : PySem.W.Frag} {σ : St} {H : Hp} {Q : VK} {D : Ends} {ta tb te : TE} {c : TT} {t u : TS} {x y v : V} {i j : Int}
theorem i_var {n : Nat} (h : σ[n]? = some (some v)) (k : Q v H) : tVar n σ H Q := ⟨v, h, k⟩
theorem i_c (k : Q v H) : tC v σ H Q := k
theorem i_next (k : D.nx σ H) : tNext D σ H := k
theorem i_ret (k : te σ H D.rt) : tRet te D σ H := k
theorem i_drop (k : te σ H fun _ H1 => D.nx σ H1) : tDrop te D σ H := k
theorem i_asg {g : TG} (k : te σ H fun x H1 => g x σ H1 D.nx) : tAsg te g D σ H := k
theorem i_gname {n : Nat} {R : St → Hp → Prop} (k : R (σ.set n (some v)) H) : gName n v σ H R := k
theorem i_if (k : c σ H fun b H1 => if b = true then t D σ H1 else u D σ H1) : tIfS c t u D σ H := k
theorem i_op {r : R2} (k : ta σ H fun x H1 => tb σ H1 fun y H2 => r x y H2 Q) : tOp r ta tb σ H Q := k
theorem i_un {r : V → Hp → VK → Prop} (k : ta σ H fun x H1 => r x H1 Q) : tUn r ta σ H Q := k
theorem i_rU {g : Int → V} (k : Q (g i) H) : rU g (.int i) H Q := ⟨i, rfl, k⟩
theorem i_rI0 {g : Int → Int → V} (k : Q (g i j) H) : rI0 g (.int i) (.int j) H Q := ⟨i, j, rfl, rfl, k⟩
theorem i_rI {C : Int → Int → Prop} {g : Int → Int → V} (h : C i j) (k : Q (g i j) H) : rI C g (.int i) (.int j) H Q := ⟨i, j, rfl, rfl, h, k⟩
theorem i_addI (k : Q (.int (i + j)) H) : rAddA K (.int i) (.int j) H Q := .inl ⟨i, j, rfl, rfl, k⟩
theorem i_addS {a b : Str} (h : a.length + b.length ≤ sizeLine) (k : Q (.str (a ++ b)) H) : rAddA K (.str a) (.str b) H Q := .inr (.inl ⟨a, b, rfl, rfl, h, k⟩)
theorem i_addL {a b : Addr} {xs ys : List V} (h1 : H a = some (.lst xs)) (h2 : H b = some (.lst ys)) (h : xs.length + ys.length ≤ sizeLine) (k : ∀ p H', H p = none → Same H H' → H' p = some (.lst (xs ++ ys)) → Q (.ref p) H') : rAddA K (.ref a) (.ref b) H Q :=
  .inr (.inr (.inl ⟨a, b, xs, ys, rfl, rfl, h1, h2, h, fun p hp => k p _ hp (Same.upd hp) upd_same⟩))
theorem i_mulI (h : CMul i j) (k : Q (.int (i * j)) H) : rMulA (.int i) (.int j) H Q := .inl ⟨i, j, rfl, rfl, h, k⟩
theorem i_eqS (h : scal x y = true) (k : Q (.bl (decide (x = y))) H) : rEqA K x y H Q := .inl ⟨h, k⟩
theorem i_neS (h : scal x y = true) (k : Q (.bl (!decide (x = y))) H) : rNeA K x y H Q := .inl ⟨h, k⟩
theorem i_eqD {dx dy : PyData} (h1 : Is K H dx x) (h2 : Is K H dy y) (h3 : SeqAt.shaped dx = true) (h4 : SeqAt.shaped dy = true) (k : Q (.bl (PyData.eqv dx dy)) H) : rEqA K x y H Q := .inr ⟨dx, dy, h1, h2, h3, h4, k⟩
theorem i_neD {dx dy : PyData} (h1 : Is K H dx x) (h2 : Is K H dy y) (h3 : SeqAt.shaped dx = true) (h4 : SeqAt.shaped dy = true) (k : Q (.bl (!PyData.eqv dx dy)) H) : rNeA K x y H Q := .inr ⟨dx, dy, h1, h2, h3, h4, k⟩
theorem i_true {R : Bool → Hp → Prop} (k : R true H) : tTrue σ H R := k
theorem i_tTest {R : Bool → Hp → Prop} (k : te σ H fun x H' => ∃ b, x = .bl b ∧ R b H') : tTest te σ H R := k
theorem i_tB {R : Bool → Hp → Prop} (k : te σ H fun x H' => ∃ b, x = .bl b ∧ R b H') : tB te σ H R := k
theorem i_bl {b : Bool} {R : Bool → Prop} (k : R b) : ∃ c, V.bl b = .bl c ∧ R c := ⟨b, rfl, k⟩
theorem i_not {R : Bool → Hp → Prop} (k : c σ H fun b H1 => R (!b) H1) : tNot c σ H R := k
theorem i_and {c' : TT} {R : Bool → Hp → Prop} (k : c σ H fun b H1 => if b = true then c' σ H1 R else R false H1) : tAnd c c' σ H R := k
theorem i_or {c' : TT} {R : Bool → Hp → Prop} (k : c σ H fun b H1 => if b = true then R true H1 else c' σ H1 R) : tOr c c' σ H R := k
theorem i_ixL {a : Addr} {xs : List V} (h : H a = some (.lst xs)) (e : atI xs i = some v) (k : Q v H) : rIxA K (.ref a) (.int i) H Q := .inl (.inl ⟨a, xs, i, v, rfl, rfl, SqL.of h, e, k⟩)
theorem i_ixS {z : Str} {s : Nat} (h : z.length ≤ sizeLine) (e : atI z.cps.toList i = some s) (k : Q (.str ⟨#[s]⟩) H) : rIxA K (.str z) (.int i) H Q := .inl (.inr (.inr ⟨z, i, s, rfl, rfl, h, e, k⟩))
theorem i_ixD {a : Addr} {kvs : List (Key × V)} {z : Str} (h : H a = some (.dK kvs)) (e : valV kvs (Sum.inr z : Key) = some v) (k : Q v H) : rIxA K (.ref a) (.str z) H Q := .inr ⟨a, v, rfl, by rw [← e]; exact DGet.k (k := Sum.inr z) h, k⟩
theorem i_lenL {a : Addr} {xs : List V} (h : H a = some (.lst xs)) (k : Q (.int xs.length) H) : rLenA K [.ref a] H Q := .inl ⟨.ref a, _, rfl, .inl ⟨xs, SqL.of h, rfl⟩, k⟩
theorem i_isi {c : String} {t : Value} {b : Bool} (h : TyOf K H x t) (e : PySem.W.kitOne K t (.type c) = some b) (k : Q (.bl b) H) : rIsinst K [x, .ty c] H Q := .inl ⟨x, c, t, b, rfl, h, e, k⟩
theorem i_isiT {c : String} {b : Bool} {a : Addr} {ys : List V} (h : SqT K H a ys) (e : PySem.W.kitOne K (.type "tuple") (.type c) = some b) (k : Q (.bl b) H) : rIsinst K [.ref a, .ty c] H Q := .inr (.inr ⟨a, ys, c, b, rfl, .inl ⟨h, e⟩, k⟩)
theorem i_listL {a : Addr} {xs : List V} (h : SqL K H a xs) (k : ∀ p H', H p = none → Same H H' → H' p = some (.lst xs) → Q (.ref p) H') : rListA K [.ref a] H Q := ⟨a, xs, rfl, .inl h, fun p hp => k p _ hp (Same.upd hp) upd_same⟩
theorem i_tupleL {a : Addr} {xs : List V} (h : SqL K H a xs) (k : ∀ p H', H p = none → Same H H' → H' p = some (.tup xs) → Q (.ref p) H') : rTupleA K [.ref a] H Q := ⟨a, xs, rfl, .inl ⟨h, fun p hp => k p _ hp (Same.upd hp) upd_same⟩⟩
theorem i_intB {b : Bool} (k : Q (.int (if b then 1 else 0)) H) : rIntA [.bl b] H Q := .inr ⟨b, rfl, k⟩
theorem i_all {a : Addr} {bs : List Bool} (h : SqL K H a (bs.map V.bl)) (k : Q (.bl (bs.all id)) H) : rAllA K [.ref a] H Q := ⟨a, bs, rfl, h, k⟩
theorem i_sl {r : V → Option Int → Option Int → Hp → VK → Prop} {tl th : TO} (k : te σ H fun x H1 => tl σ H1 fun l H2 => th σ H2 fun u H3 => r x l u H3 Q) : tSl r te tl th σ H Q := k
theorem i_noPart {R : Option Int → Hp → Prop} (k : R none H) : tNoPart σ H R := k
theorem i_part {R : Option Int → Hp → Prop} (k : te σ H fun x H1 => ∃ i, x = .int i ∧ R (some i) H1) : tPart te σ H R := k
theorem i_int {R : Int → Prop} (k : R i) : ∃ j, V.int i = .int j ∧ R j := ⟨i, rfl, k⟩
theorem i_slS {z : Str} {lo hi : Option Int} (h : z.length ≤ sizeLine) (k : Q (.str (Txt.slice z lo hi)) H) : rSlA K (.str z) lo hi H Q := .inr (.inr (.inl ⟨z, rfl, h, k⟩))
theorem i_slL {a : Addr} {xs : List V} {lo hi : Option Int} (h : SqL K H a xs) (k : ∀ p H', H p = none → Same H H' → H' p = some (.lst (cutV xs lo hi)) → Q (.ref p) H') : rSlA K (.ref a) lo hi H Q := .inl ⟨a, xs, rfl, h, fun p hp => k p _ hp (Same.upd hp) upd_same⟩
theorem i_bm {T : String} {r : V → List V → Hp → VK → Prop} {ts : TA} (k : te σ H fun x H1 => tyV K T x H1 ∧ ts σ H1 fun xs H2 => r x xs H2 Q) : tBM K T r te ts σ H Q := k
theorem i_tyS {z : Str} {B : Prop} (k : B) : tyV K "str" (.str z) H ∧ B := ⟨rfl, k⟩
theorem i_join {z : Str} {a : Addr} {ys : List Str} (h : SqL K H a (ys.map V.str)) (hz : (ys.map (·.length)).sum + ys.length * z.length ≤ 16777216) (k : Q (.str (Txt.join z ys)) H) : rJoin K (.str z) [.ref a] H Q := ⟨z, a, ys, rfl, rfl, h, hz, k⟩
theorem i_call {sp : Sp} {E : XK} {ts : TA} (k : ts σ H fun vs H1 => sp (vs ++ []) H1 Q E) : tCall sp [] E ts σ H Q := k
theorem i_cb {r : List V → Hp → VK → Prop} {ts : TA} (k : ts σ H fun vs H1 => r vs H1 Q) : tCB r ts σ H Q := k
theorem i_cons {tr : TA} {R : List V → Hp → Prop} (k : ta σ H fun x H1 => tr σ H1 fun xs H2 => R (x :: xs) H2) : tCons ta tr σ H R := k
theorem i_nil {R : List V → Hp → Prop} (k : R [] H) : tNil σ H R := k
theorem i_tup {ts : TA} (k : ts σ H fun xs H1 => rNewT xs H1 Q) : tTup ts σ H Q := k
theorem i_lst {ts : TA} (k : ts σ H fun xs H1 => rNewL xs H1 Q) : tLst ts σ H Q := k
theorem i_newT {xs : List V} (h : xs.length ≤ sizeLine) (k : ∀ p H', H p = none → Same H H' → H' p = some (.tup xs) → Q (.ref p) H') : rNewT xs H Q := ⟨h, fun p hp => k p _ hp (Same.upd hp) upd_same⟩
theorem i_newL {xs : List V} (h : xs.length ≤ sizeLine) (k : ∀ p H', H p = none → Same H H' → H' p = some (.lst xs) → Q (.ref p) H') : rNewL xs H Q := ⟨h, fun p hp => k p _ hp (Same.upd hp) upd_same⟩
theorem i_newD (k : ∀ p H', H p = none → Same H H' → H' p = some (.dK []) → Q (.ref p) H') : tDNewK σ H Q := fun p hp => k p _ hp (Same.upd hp) upd_same
theorem i_put {td ty tv : TE} (k : tv σ H fun v H1 => td σ H1 fun x H2 => ty σ H2 fun y H3 => ∃ a H4, x = .ref a ∧ DPut H3 a y v H4 ∧ D.nx σ H4) : sDPut td ty tv D σ H := k
theorem i_dput {a : Addr} {kvs : List (Key × V)} {z : Str} {R : Hp → Prop} (h : H a = some (.dK kvs)) (hl : kvs.length < 1000) (k : ∀ H', ExtBut a H H' → H' a = some (.dK (putK kvs (Sum.inr z) v)) → R H') : ∃ b H4, V.ref a = .ref b ∧ DPut H b (.str z) v H4 ∧ R H4 :=
  ⟨a, _, rfl, DPut.k (k := Sum.inr z) h (small1000 (Nat.le_of_lt hl)), k _ ExtBut.upd upd_same⟩
theorem i_for {wi : TI} {g : TG} {tb : TS} (k : wi σ H fun J H1 => rFor g tb D σ J H1) : tFor wi g tb D σ H := k
theorem i_comp {m : Nat} {js : List Nat} {wi : TI} {g : TG} {tt : TT} (k : wi σ H fun J H1 => rComp m js g tt te σ J H1 Q) : tComp m js wi g tt te σ H Q := k
theorem i_itL {a : Addr} {xs : List V} {R : It → Hp → Prop} (h : SqL K H a xs) (k : R (Itl K a) H) : rAnyIt K (.ref a) H R := .inl ⟨a, rfl, ⟨xs, h⟩, k⟩
theorem i_itT {a : Addr} {xs : List V} {R : It → Hp → Prop} (h : SqT K H a xs) (k : R (Itt K a) H) : rAnyIt K (.ref a) H R := .inr (.inl ⟨a, rfl, ⟨xs, h⟩, k⟩)
theorem i_rng1 {ts : TA} {R : It → Hp → Prop} (k : ts σ H fun vs H1 => rRng1 vs H1 R) : iRng1 ts σ H R := k
theorem i_rngv {R : It → Hp → Prop} (h : -(2 ^ 62) ≤ i ∧ i < 2 ^ 62) (k : R (Itr 0 i.toNat) H) : rRng1 [V.int i] H R := ⟨i, rfl, h.1, h.2, k⟩
theorem i_rng2 {ts : TA} {R : It → Hp → Prop} (k : ts σ H fun vs H1 => rRng2 vs H1 R) : iRng2 ts σ H R := k
theorem i_rngw {R : It → Hp → Prop} (h : (-(2 ^ 62) ≤ i ∧ i < 2 ^ 62) ∧ -(2 ^ 62) ≤ j ∧ j < 2 ^ 62) (k : R (Itr i (j - i).toNat) H) : rRng2 [V.int i, V.int j] H R := ⟨i, j, rfl, ⟨h.1.1, h.1.2, h.2.1, h.2.2⟩, k⟩
theorem i_iany {R : It → Hp → Prop} (k : te σ H fun x H1 => rAnyIt K x H1 R) : iAny K te σ H R := k
theorem i_disp {trs : List (TE × TE)} (k : ∀ p H1, H p = none → Same H H1 → H1 p = some (.dK []) → tPairs trs σ H1 fun ps H2 => rPairs p ps H2 Q) : tDisp trs σ H Q := fun p hp => k p _ hp (Same.upd hp) upd_same
theorem i_pair {tk tv : TE} {r : List (TE × TE)} {R : List (V × V) → Hp → Prop} (k : tk σ H fun x H1 => tv σ H1 fun y H2 => tPairs r σ H2 fun ps H3 => R ((x, y) :: ps) H3) : tPairs ((tk, tv) :: r) σ H R := k
theorem i_pairs {p : Addr} {ps : List (V × V)} (kvs : List (Key × V)) (h : H p = some (.dK [])) (e : ps = kvs.map (fun kv => (kV kv.1, kv.2))) (hl : kvs.length ≤ 15) (k : ∀ H', ExtBut p H H' → H' p = some (.dK (mergeK [] kvs)) → Q (.ref p) H') : rPairs p ps H Q := ⟨h, kvs, e, hl, k _ ExtBut.upd upd_same⟩
theorem i_pair0 {R : List (V × V) → Hp → Prop} (k : R [] H) : tPairs [] σ H R := k
end
end L2
set_option Elab.async false
set_option linter.all false
set_option maxRecDepth 100000
set_option maxHeartbeats 4000000
namespace L2
open PySem PySem.Spec PyProof.Rows
theorem iteD {c A B : Prop} [Decidable c] (h1 : c → A) (h2 : ¬ c → B) : if decide c = true then A else B := by
  by_cases h : c
  · rw [if_pos (decide_eq_true h)]; exact h1 h
  · rw [if_neg (by rw [decide_eq_false h]; exact Bool.false_ne_true)]; exact h2 h
theorem iteND {c A B : Prop} [Decidable c] (h1 : ¬ c → A) (h2 : c → B) : if (!decide c) = true then A else B := by
  by_cases h : c
  · rw [decide_eq_true h, if_neg (by decide)]; exact h2 h
  · rw [decide_eq_false h, if_pos (by decide)]; exact h1 h
theorem iteB {b : Bool} {A B : Prop} (h1 : b = true → A) (h2 : b = false → B) : if b = true then A else B := by
  cases b
  · rw [if_neg Bool.false_ne_true]; exact h2 rfl
  · rw [if_pos rfl]; exact h1 rfl
theorem iteNB {b : Bool} {A B : Prop} (h1 : b = false → A) (h2 : b = true → B) : if (!b) = true then A else B := by
  cases b
  · exact h1 rfl
  · exact h2 rfl
theorem iteNT {A B : Prop} (h : B) : if (!true) = true then A else B := h
theorem iteNF {A B : Prop} (h : A) : if (!false) = true then A else B := h
theorem line_of {n : Nat} (h : n ≤ 1000000) : n ≤ sizeLine := by rw [sizeLine_eq]; omega
noncomputable def WalkOf (J : It) (xs : List V) (G : Hp → Prop) : Prop :=
  ∀ i H, G H → (i < xs.length → J.go i H) ∧ (xs.length ≤ i → J.stop i H) ∧ ∀ x H', i < xs.length → J.yld i H x H' → H' = H ∧ xs[i]? = some x
theorem walk_list {K : PySem.W.Frag} {a : Addr} {xs : List V} : WalkOf (Itl K a) xs fun H => SqL K H a xs := by
  intro i H g
  refine ⟨fun h => ⟨xs, xs[i], g, List.getElem?_eq_getElem h⟩, fun h => ⟨xs, g, h⟩, fun x H' _ h => ⟨h.1, h.2 xs g⟩⟩
theorem walk_tup {K : PySem.W.Frag} {a : Addr} {xs : List V} : WalkOf (Itt K a) xs fun H => SqT K H a xs := by
  intro i H g
  refine ⟨fun h => ⟨xs, xs[i], g, List.getElem?_eq_getElem h⟩, fun h => ⟨xs, g, h⟩, fun x H' _ h => ⟨h.1, h.2 xs g⟩⟩
theorem walk_range {lo : Int} {n : Nat} : WalkOf (Itr lo n) ((List.range n).map fun (i : Nat) => V.int (lo + (i : Int))) fun _ => True := by
  intro i H _
  refine ⟨fun h => ?_, fun h => ?_, fun x H' hi h => ?_⟩
  · show i < n
    simpa using h
  · show n ≤ i
    simpa using h
  · obtain ⟨e, hx⟩ := h
    refine ⟨e, ?_⟩
    have hi' : i < n := by simpa using hi
    rw [List.getElem?_map, List.getElem?_range hi', hx]
    rfl
theorem for_walk {J : It} {xs : List V} {G : Hp → Prop} {g : TG} {tb : TS} {D : Ends} {σ : St} {H : Hp} (hw : WalkOf J xs G) (Pv : Nat → St → Hp → Prop) (h0 : Pv 0 σ H) (hG : ∀ i σ H, Pv i σ H → G H)
    (hs : ∀ i x σ H, xs[i]? = some x → Pv i σ H → g x σ H fun σ2 H2 => tb { D with nx := Pv (i + 1), ct := Pv (i + 1), bk := D.nx } σ2 H2) (hd : ∀ σ H, Pv xs.length σ H → D.nx σ H) :
    ∃ W : Nat → Nat → St → Hp → Prop, (∃ m, W 0 m σ H) ∧ ∀ i m σ H, W i m σ H →
      (J.stop i H ∧ D.nx σ H) ∨ (J.go i H ∧ ∃ N : St → Hp → Prop, (∀ σ' H', N σ' H' → ∃ m', m' < m ∧ W (i + 1) m' σ' H') ∧ ∀ x H', J.yld i H x H' → g x σ H' fun σ2 H2 => tb { D with nx := N, ct := N, bk := D.nx } σ2 H2) := by
  refine ⟨fun i m σ H => m = xs.length - i ∧ i ≤ xs.length ∧ Pv i σ H, ⟨xs.length, by simp, Nat.zero_le _, h0⟩, ?_⟩
  rintro i m σ H ⟨rfl, hi, p⟩
  obtain ⟨w1, w2, w3⟩ := hw i H (hG i σ H p)
  by_cases hlt : i < xs.length
  · refine .inr ⟨w1 hlt, Pv (i + 1), fun σ' H' p' => ⟨xs.length - (i + 1), by omega, rfl, hlt, p'⟩, fun x H' y => ?_⟩
    obtain ⟨e, hx⟩ := w3 x H' hlt y
    subst e
    exact hs i x σ _ hx p
  · have e : i = xs.length := by omega
    subst e
    exact .inl ⟨w2 (Nat.le_refl _), hd σ H p⟩
noncomputable def CN (p : Addr) (n : Nat) (Pv : Nat → List V → Hp → Prop) (i : Nat) : Hp → Prop := fun H' => i + 1 ≤ n ∧ ∃ acc, H' p = some (.lst acc) ∧ acc.length ≤ i + 1 ∧ Pv (i + 1) acc H'
theorem cn_push {p : Addr} {n : Nat} {Pv : Nat → List V → Hp → Prop} {i : Nat} {H : Hp} {acc : List V} {y : V} (hn : n ≤ 1000000) (hi : i < n) (hl : acc.length ≤ i) (e : H p = some (.lst acc)) (k : ∀ H', ExtBut p H H' → H' p = some (.lst (acc ++ [y])) → Pv (i + 1) (acc ++ [y]) H') :
    ∃ acc, H p = some (.lst acc) ∧ acc.length < sizeLine ∧ CN p n Pv i (upd H p (.lst (acc ++ [y]))) :=
  ⟨acc, e, by rw [sizeLine_eq]; omega, hi, acc ++ [y], upd_same, by rw [List.length_append, List.length_singleton]; omega, k _ ExtBut.upd upd_same⟩
theorem cn_skip {p : Addr} {n : Nat} {Pv : Nat → List V → Hp → Prop} {i : Nat} {H : Hp} {acc : List V} (hi : i < n) (hl : acc.length ≤ i) (e : H p = some (.lst acc)) (k : Pv (i + 1) acc H) : CN p n Pv i H := ⟨hi, acc, e, by omega, k⟩
theorem comp_walk {J : It} {xs : List V} {G : Hp → Prop} {g : TG} {tt : TT} {te : TE} {σ : St} {H : Hp} {Q : VK} {p : Addr} {k : Nat} {js : List Nat} (hw : WalkOf J xs G) (hp : H p = none) (Pv : Nat → List V → Hp → Prop)
    (h0 : ∀ H', Same H H' → H' p = some (.lst []) → Pv 0 [] H') (hG : ∀ i acc H, Pv i acc H → G H)
    (hs : ∀ i x acc H, xs[i]? = some x → i < xs.length → acc.length ≤ i → H p = some (.lst acc) → Pv i acc H → g x (List.replicate k none ++ pick σ js) H fun σ2 H2 => tt σ2 H2 fun b H3 =>
      if b = true then te σ2 H3 fun y H4 => ∃ acc, H4 p = some (.lst acc) ∧ acc.length < sizeLine ∧ CN p xs.length Pv i (upd H4 p (.lst (acc ++ [y]))) else CN p xs.length Pv i H3)
    (hd : ∀ acc H, H p = some (.lst acc) → acc.length ≤ xs.length → Pv xs.length acc H → Q (.ref p) H) :
    ∃ W : Nat → Nat → Hp → Prop, (∃ m, W 0 m (upd H p (.lst []))) ∧ ∀ i m H, W i m H →
      (J.stop i H ∧ Q (.ref p) H) ∨ (J.go i H ∧ ∃ N : Hp → Prop, (∀ H', N H' → ∃ m', m' < m ∧ W (i + 1) m' H') ∧
        ∀ x H', J.yld i H x H' → g x (List.replicate k none ++ pick σ js) H' fun σ2 H2 => tt σ2 H2 fun b H3 =>
          if b = true then te σ2 H3 fun y H4 => ∃ acc, H4 p = some (.lst acc) ∧ acc.length < sizeLine ∧ N (upd H4 p (.lst (acc ++ [y]))) else N H3) := by
  refine ⟨fun i m H => m = xs.length - i ∧ i ≤ xs.length ∧ ∃ acc, H p = some (.lst acc) ∧ acc.length ≤ i ∧ Pv i acc H, ⟨xs.length, by simp, Nat.zero_le _, [], upd_same, Nat.le_refl _, h0 _ (Same.upd hp) upd_same⟩, ?_⟩
  rintro i m H ⟨rfl, hi, acc, hacc, hl, q⟩
  obtain ⟨w1, w2, w3⟩ := hw i H (hG i acc H q)
  by_cases hlt : i < xs.length
  · refine .inr ⟨w1 hlt, CN p xs.length Pv i, fun H' ⟨h1, h2⟩ => ⟨xs.length - (i + 1), by omega, rfl, h1, h2⟩, fun x H' y => ?_⟩
    obtain ⟨e, hx⟩ := w3 x H' hlt y
    subst e
    exact hs i x acc _ hx hlt hl hacc q
  · have e : i = xs.length := by omega
    subst e
    exact .inl ⟨w2 (Nat.le_refl _), hd acc H hacc hl q⟩
noncomputable def rPush (p : Addr) (N : Hp → Prop) : VK := fun y H4 => ∃ acc, H4 p = some (.lst acc) ∧ acc.length < sizeLine ∧ N (upd H4 p (.lst (acc ++ [y])))
theorem comp_by {J : It} {xs : List V} {G : Hp → Prop} {g : TG} {tt : TT} {te : TE} {σ : St} {H : Hp} {Q : VK} {k : Nat} {js : List Nat} (hw : WalkOf J xs G) (Pv : Addr → Nat → List V → Hp → Prop)
    (h0 : ∀ p H', H p = none → Same H H' → H' p = some (.lst []) → Pv p 0 [] H') (hG : ∀ p i acc H, Pv p i acc H → G H)
    (hs : ∀ p i x acc H1, H p = none → xs[i]? = some x → i < xs.length → acc.length ≤ i → H1 p = some (.lst acc) → Pv p i acc H1 → g x (List.replicate k none ++ pick σ js) H1 fun σ2 H2 => tt σ2 H2 fun b H3 =>
      if b = true then te σ2 H3 (rPush p (CN p xs.length (Pv p) i)) else CN p xs.length (Pv p) i H3)
    (hd : ∀ p acc H1, H p = none → H1 p = some (.lst acc) → acc.length ≤ xs.length → Pv p xs.length acc H1 → Q (.ref p) H1) : rComp k js g tt te σ J H Q := fun p hp =>
  comp_walk hw hp (Pv p) (fun H' e h => h0 p H' hp e h) (hG p) (fun i x acc H1 h1 h2 h3 h4 h5 => hs p i x acc H1 hp h1 h2 h3 h4 h5) fun acc H1 h1 h2 h3 => hd p acc H1 hp h1 h2 h3
theorem push_i {p : Addr} {n : Nat} {Pv : Nat → List V → Hp → Prop} {i : Nat} {H : Hp} {acc : List V} {y : V} (hn : n ≤ 1000000) (hi : i < n) (hl : acc.length ≤ i) (e : H p = some (.lst acc)) (k : ∀ H', ExtBut p H H' → H' p = some (.lst (acc ++ [y])) → Pv (i + 1) (acc ++ [y]) H') :
    rPush p (CN p n Pv i) y H := cn_push hn hi hl e k
theorem comp_pure {J : It} {xs : List V} {G : Hp → Prop} {g : TG} {tt : TT} {te : TE} {σ : St} {H : Hp} {Q : VK} {k : Nat} {js : List Nat} (hw : WalkOf J xs G) (t : V → Bool) (f : V → V) (hz : xs.length ≤ 1000000) (hG : ∀ H', Same H H' → G H')
    (hs : ∀ (i : Nat) x H1 (R : VK) (R' : Hp → Prop), xs[i]? = some x → Same H H1 → (t x = true → R (f x) H1) → (t x = false → R' H1) → g x (List.replicate k none ++ pick σ js) H1 fun σ2 H2 => tt σ2 H2 fun b H3 => if b = true then te σ2 H3 R else R' H3)
    (hd : ∀ p H', H p = none → Same H H' → H' p = some (.lst ((xs.filter t).map f)) → Q (.ref p) H') : rComp k js g tt te σ J H Q := by
  refine comp_by hw (fun p i acc H1 => Same H H1 ∧ acc = ((xs.take i).filter t).map f) (fun p H' hp e h => ⟨e, by simp⟩) (fun p i acc H1 h => hG H1 h.1) (fun p i x acc H1 hp hx hi hl ha ⟨e, hacc⟩ => ?_) fun p acc H1 hp ha hl ⟨e, hacc⟩ => ?_
  · have ht : xs.take (i + 1) = xs.take i ++ [x] := by rw [List.take_add_one, hx]; rfl
    refine hs i x H1 _ _ hx e (fun h => ?_) fun h => ?_
    · refine push_i hz hi hl ha fun H' e' h' => ⟨fun b o hb => e' b o (ne_of_none hb hp) (e b o hb), ?_⟩
      rw [ht, List.filter_append, List.map_append, hacc]
      simp [h]
    · refine cn_skip hi hl ha ⟨e, ?_⟩
      rw [ht, List.filter_append, List.map_append, hacc]
      simp [h]
  · refine hd p H1 hp e ?_
    rw [ha, hacc, List.take_length]
theorem filter_true {α : Type} (xs : List α) : xs.filter (fun _ => true) = xs := by simp
theorem comp_map {J : It} {xs : List V} {G : Hp → Prop} {g : TG} {te : TE} {σ : St} {H : Hp} {Q : VK} {k : Nat} {js : List Nat} (hw : WalkOf J xs G) (f : V → V) (hz : xs.length ≤ 1000000) (hG : ∀ H', Same H H' → G H')
    (hs : ∀ (i : Nat) x H1 (R : VK), xs[i]? = some x → Same H H1 → R (f x) H1 → g x (List.replicate k none ++ pick σ js) H1 fun σ2 H2 => te σ2 H2 R)
    (hd : ∀ p H', H p = none → Same H H' → H' p = some (.lst (xs.map f)) → Q (.ref p) H') : rComp k js g tTrue te σ J H Q :=
  comp_pure hw (fun _ => true) f hz hG (fun i x H1 R R' hx e h _ => by
    have := hs i x H1 R hx e (h rfl)
    show g x _ H1 fun σ2 H2 => if true = true then te σ2 H2 R else R' H2
    simpa using this) fun p H' hp e h => hd p H' hp e (by rw [h, filter_true])
theorem for_by {J : It} {xs : List V} {G : Hp → Prop} {g : TG} {tb : TS} {D : Ends} {σ : St} {H : Hp} (hw : WalkOf J xs G) (Pv : Nat → St → Hp → Prop) (h0 : Pv 0 σ H) (hG : ∀ i σ H, Pv i σ H → G H)
    (hs : ∀ i x σ H, xs[i]? = some x → i < xs.length → Pv i σ H → g x σ H fun σ2 H2 => tb { D with nx := Pv (i + 1), ct := Pv (i + 1), bk := D.nx } σ2 H2) (hd : ∀ σ H, Pv xs.length σ H → D.nx σ H) : rFor g tb D σ J H :=
  for_walk hw Pv h0 hG (fun i x σ H hx => hs i x σ H hx (List.getElem?_eq_some_iff.mp hx).1) hd
section
variable {X : Cx} {K : PySem.W.Frag}
theorem op_addK (hK : X.K = K := by with_unfolding_all rfl) : OpR X (binaryOp .Add) (rAddA K) := hK ▸ op_addA
theorem op_eqK (hq : QA X.A) (hK : X.K = K := by with_unfolding_all rfl) : OpR X (compareOp .Eq) (rEqA K) := hK ▸ op_eqA hq
theorem op_neK (hq : QA X.A) (hK : X.K = K := by with_unfolding_all rfl) : OpR X (compareOp .NotEq) (rNeA K) := hK ▸ op_neA hq
theorem op_inK (hq : QA X.A) (hK : X.K = K := by with_unfolding_all rfl) : OpR X (compareOp .In) (rInA K false) := hK ▸ op_inA hq
theorem op_notInK (hq : QA X.A) (hK : X.K = K := by with_unfolding_all rfl) : OpR X (compareOp .NotIn) (rInA K true) := hK ▸ op_notInA hq
theorem ix_anyK (hu : X.A.units + 1 < cLine) (hK : X.K = K := by with_unfolding_all rfl) : IxR X (rIxA K) := hK ▸ ix_any hu
theorem sl_K (hK : X.K = K := by with_unfolding_all rfl) : SlR X (rSlA K) := hK ▸ sl_A
theorem call_lenK (hK : X.K = K := by with_unfolding_all rfl) : CallR X (.builtin "len") (rLenA K) := hK ▸ call_lenA
theorem call_isinstK (hK : X.K = K := by with_unfolding_all rfl) : CallR X (.builtin "isinstance") (rIsinst K) := hK ▸ call_isinstA
theorem call_listK (hK : X.K = K := by with_unfolding_all rfl) : CallR X (.type "list") (rListA K) := hK ▸ call_listA
theorem call_tupleK (hK : X.K = K := by with_unfolding_all rfl) : CallR X (.type "tuple") (rTupleA K) := hK ▸ call_tupleA
theorem call_allK (hc : X.calm = true) (hK : X.K = K := by with_unfolding_all rfl) : CallR X (.builtin "all") (rAllA K) := hK ▸ call_allA hc
theorem mt_joinK (hK : X.K = K := by with_unfolding_all rfl) : MtR X "str.join" (rJoin K) := hK ▸ mt_join
theorem pi_anyK {tg : Expr} (hu : X.A.units + 1 < cLine) {l : Expr} {tl : TE} (hl : PE X l tl) (hK : X.K = K := by with_unfolding_all rfl) : PI X tg l (iAny K tl) := hK ▸ pi_any hu hl
theorem pg_tupK {es : List Expr} {k : Nat} {t : TGs} {n : Nat} {pos : Pos} (hc : X.calm = true) (h : PGs X es t) (hK : X.K = K := by with_unfolding_all rfl)
    (hn : (assignEach es X.env).length = n := by with_unfolding_all rfl) (hst : (assignEach es X.env).findIdx? (·.1) = none := by with_unfolding_all rfl) : PG X (.Tuple es k pos) (gTup K n t) := hK ▸ pg_tup hc h hn hst
variable {o e : Expr} {es : List Expr} {to : TE} {t : TA} {name : Str} {apos cpos : Pos} {T id : String} {r : V → List V → Hp → VK → Prop}
theorem pe_bmK (pa : PlainAttrs T) (slot : Slot T name id) (hty : typeOf (.builtin id) = pure (.type "method_descriptor")) (hm : MtR X id r) (ho : PE X o to) (ha : PA X (e :: es) t) (hK : X.K = K := by with_unfolding_all rfl)
    (hbase : attributeBase o name X.env (eval o X.env) = eval o X.env := by with_unfolding_all rfl)
    (hfew : ((backTo cpos (starEach (e :: es) X.env)).all (fun x => !x.1) && (backToKw cpos (keywordEach [] X.env)).all (fun x => x.1.isSome)
      && decide ((e :: es).length + ([] : List Keyword).length + (if ([] : List Keyword).isEmpty then 0 else 1) < 30)) = true := by with_unfolding_all rfl)
    (hline : (apos.endLine == cpos.line) = true := by with_unfolding_all rfl) (hs : starEach (e :: es) X.env = (false, eval e X.env) :: starEach es X.env := by with_unfolding_all rfl) (hplain : (backTo cpos (starEach es X.env)).any (·.1) = false := by with_unfolding_all rfl) :
    PE X (.Call (.Attribute o name apos) (e :: es) [] cpos) (tBM K T r to t) := hK ▸ pe_bm pa slot hty hm ho ha hbase hfew hline hs hplain
end
end L2
set_option Elab.async false
set_option linter.all false
set_option maxRecDepth 100000
set_option maxHeartbeats 4000000
namespace L2
open PySem PySem.Spec PyProof.Rows
noncomputable def Fz (H H' : Hp) : Prop := ∀ a xs, Rd H a (.tup xs) → Rd H' a (.tup xs)
theorem Fz.refl (H : Hp) : Fz H H := fun _ _ h => h
theorem Fz.trans {H H1 H2 : Hp} (a : Fz H H1) (b : Fz H1 H2) : Fz H H2 := fun c xs h => b c xs (a c xs h)
theorem Same.fz {H H' : Hp} (e : Same H H') : Fz H H' := fun a xs h => by
  rcases h with h | ⟨o, h⟩
  · exact .inl (e _ _ h)
  · exact .inr ⟨o, e _ _ h⟩
theorem fz_but {p : Addr} {H H' : Hp} (e : ExtBut p H H') (hp : ∀ xs, ¬ Rd H p (.tup xs)) : Fz H H' := fun a xs h => by
  have n : a ≠ p := fun q => hp xs (q ▸ h)
  rcases h with h | ⟨o, h⟩
  · exact .inl (e _ _ n h)
  · exact .inr ⟨o, e _ _ n h⟩
theorem ExtBut.fzL {p : Addr} {H H' : Hp} {l : List V} (e : ExtBut p H H') (hp : H p = some (.lst l)) : Fz H H' := fz_but e fun xs h => by
  rcases h with h | ⟨o, h⟩
  · rw [hp] at h; cases h
  · rw [hp] at h; cases h
theorem ExtBut.fzD {p : Addr} {H H' : Hp} {l : List (Key × V)} (e : ExtBut p H H') (hp : H p = some (.dK l)) : Fz H H' := fz_but e fun xs h => by
  rcases h with h | ⟨o, h⟩
  · rw [hp] at h; cases h
  · rw [hp] at h; cases h
theorem Fz.seq {K : PySem.W.Frag} {H H' : Hp} (e : Fz H H') {a : Addr} {xs : List V} (h : SqT K H a xs) : SqT K H' a xs := by
  rcases h with h | h
  · exact .inl (e _ _ h)
  · exact .inr h
mutual
def frz : PyData → Bool
  | .tuple ds => frzL ds
  | .list _ => false
  | .dict _ => false
  | _ => true
def frzL : List PyData → Bool
  | [] => true
  | d :: ds => frz d && frzL ds
end
mutual
theorem Is.fz {K : PySem.W.Frag} {H H' : Hp} (e : Fz H H') : ∀ (d : PyData) (v : V), frz d = true → Is K H d v → Is K H' d v
  | .none, _, _, h => by simp only [Is] at h ⊢; exact h
  | .bool _, _, _, h => by simp only [Is] at h ⊢; exact h
  | .int _, _, _, h => by simp only [Is] at h ⊢; exact h
  | .str _, _, _, h => by simp only [Is] at h ⊢; exact h
  | .list ds, v, hf, _ => by simp [frz] at hf
  | .tuple ds, v, hf, h => by
    simp only [Is] at h ⊢
    obtain ⟨a, xs, e1, e2, e3⟩ := h
    exact ⟨a, xs, e1, e.seq e2, IsL.fz e ds xs (by simpa only [frz] using hf) e3⟩
  | .dict _, _, _, h => by simp only [Is] at h
theorem IsL.fz {K : PySem.W.Frag} {H H' : Hp} (e : Fz H H') : ∀ (ds : List PyData) (vs : List V), frzL ds = true → IsL K H ds vs → IsL K H' ds vs
  | [], _, _, h => by simp only [IsL] at h ⊢; exact h
  | d :: ds, vs, hf, h => by
    simp only [IsL] at h ⊢
    simp only [frzL, Bool.and_eq_true] at hf
    obtain ⟨v, r, e1, e2, e3⟩ := h
    exact ⟨v, r, e1, Is.fz e d v hf.1 e2, IsL.fz e ds r hf.2 e3⟩
end
section
variable {K : PySem.W.Frag} {H H' : Hp}
theorem IsL.length : ∀ {ds : List PyData} {vs : List V}, IsL K H ds vs → ds.length = vs.length
  | [], _, h => by simp only [IsL] at h; subst h; rfl
  | d :: ds, vs, h => by
    simp only [IsL] at h
    obtain ⟨v, r, rfl, _, e3⟩ := h
    simp only [List.length_cons, IsL.length e3]
theorem IsL.get : ∀ {ds : List PyData} {vs : List V} {i : Nat} {x : V}, IsL K H ds vs → vs[i]? = some x → ∃ d, ds[i]? = some d ∧ Is K H d x
  | [], _, _, _, h, e => by simp only [IsL] at h; subst h; simp at e
  | d :: ds, vs, i, x, h, e => by
    simp only [IsL] at h
    obtain ⟨v, r, rfl, e2, e3⟩ := h
    cases i with
    | zero => simp at e; subst e; exact ⟨d, rfl, e2⟩
    | succ i =>
      obtain ⟨d', h1, h2⟩ := IsL.get (i := i) e3 (by simpa using e)
      exact ⟨d', by simpa using h1, h2⟩
theorem IsL.append : ∀ {ds es : List PyData} {vs us : List V}, IsL K H ds vs → IsL K H es us → IsL K H (ds ++ es) (vs ++ us)
  | [], _, _, _, h, g => by simp only [IsL] at h; subst h; exact g
  | d :: ds, es, vs, us, h, g => by
    simp only [IsL] at h
    obtain ⟨v, r, rfl, e2, e3⟩ := h
    simp only [List.cons_append, IsL]
    exact ⟨v, _, rfl, e2, IsL.append e3 g⟩
theorem IsL.one {d : PyData} {v : V} (h : Is K H d v) : IsL K H [d] [v] := by simp only [IsL]; exact ⟨v, [], rfl, h, rfl⟩
theorem IsL.nil : IsL K H [] [] := by simp only [IsL]
theorem IsL.cons {d : PyData} {v : V} {ds : List PyData} {vs : List V} (h : Is K H d v) (g : IsL K H ds vs) : IsL K H (d :: ds) (v :: vs) := by simp only [IsL]; exact ⟨v, vs, rfl, h, g⟩
theorem IsL.take : ∀ {ds : List PyData} {vs : List V} (n : Nat), IsL K H ds vs → IsL K H (ds.take n) (vs.take n)
  | ds, vs, 0, h => by simp only [List.take_zero]; exact .nil
  | [], vs, n + 1, h => by simp only [IsL] at h; subst h; exact .nil
  | d :: ds, vs, n + 1, h => by
    simp only [IsL] at h
    obtain ⟨v, r, rfl, e2, e3⟩ := h
    exact .cons e2 (IsL.take n e3)
theorem IsL.drop : ∀ {ds : List PyData} {vs : List V} (n : Nat), IsL K H ds vs → IsL K H (ds.drop n) (vs.drop n)
  | ds, vs, 0, h => h
  | [], vs, n + 1, h => by simp only [IsL] at h; subst h; exact .nil
  | d :: ds, vs, n + 1, h => by
    simp only [IsL] at h
    obtain ⟨v, r, rfl, e2, e3⟩ := h
    exact IsL.drop n e3
theorem IsL.str_eq : ∀ {ns : List Str} {vs : List V}, IsL K H (ns.map PyData.str) vs → vs = ns.map V.str
  | [], vs, h => by simp only [List.map_nil, IsL] at h; exact h
  | n :: ns, vs, h => by
    simp only [List.map_cons, IsL, Is] at h
    obtain ⟨v, r, rfl, rfl, e3⟩ := h
    rw [IsL.str_eq e3]
    rfl
theorem Is.tup {ds : List PyData} {v : V} (h : Is K H (.tuple ds) v) : ∃ a xs, v = .ref a ∧ SqT K H a xs ∧ IsL K H ds xs := by simpa only [Is] using h
theorem Is.of_tup {ds : List PyData} {a : Addr} {xs : List V} (h : SqT K H a xs) (g : IsL K H ds xs) : Is K H (.tuple ds) (.ref a) := by simp only [Is]; exact ⟨a, xs, rfl, h, g⟩
theorem Is.of_lst {ds : List PyData} {a : Addr} {xs : List V} (h : SqL K H a xs) (g : IsL K H ds xs) : Is K H (.list ds) (.ref a) := by simp only [Is]; exact ⟨a, xs, rfl, h, g⟩
theorem is_str {z : Str} : Is K H (.str z) (.str z) := by simp only [Is]
theorem is_int {z : Int} : Is K H (.int z) (.int z) := by simp only [Is]
theorem is_bl {z : Bool} : Is K H (.bool z) (.bl z) := by simp only [Is]
end
noncomputable def nmD (ns : List Str) : PyData := .tuple (ns.map PyData.str)
noncomputable def prD (p : Str × Str) : PyData := .tuple [.str p.1, .str p.2]
noncomputable def psD (ps : List (Str × Str)) : PyData := .tuple (ps.map prD)
noncomputable def hfD (ns : List Str) (ps : List (Str × Str)) : PyData := .tuple [nmD ns, psD ps]
theorem frzL_strs : ∀ ns : List Str, frzL (ns.map PyData.str) = true
  | [] => rfl
  | n :: ns => by simp only [List.map_cons, frzL, frz, frzL_strs ns, Bool.and_self]
theorem frz_nm (ns : List Str) : frz (nmD ns) = true := by simp only [nmD, frz, frzL_strs]
theorem frz_pr (p : Str × Str) : frz (prD p) = true := by simp [prD, frz, frzL]
theorem frzL_prs : ∀ ps : List (Str × Str), frzL (ps.map prD) = true
  | [] => rfl
  | n :: ns => by simp only [List.map_cons, frzL, frz_pr, frzL_prs ns, Bool.and_self]
theorem frz_ps (ps : List (Str × Str)) : frz (psD ps) = true := by simp only [psD, frz, frzL_prs]
theorem frz_hf (ns : List Str) (ps : List (Str × Str)) : frz (hfD ns ps) = true := by simp only [hfD, frz, frzL, frz_nm, frz_ps, Bool.and_self]
section
variable {K : PySem.W.Frag} {H H' : Hp}
theorem Is.nm {ns : List Str} {v : V} (h : Is K H (nmD ns) v) : ∃ a, v = .ref a ∧ SqT K H a (ns.map V.str) := by
  obtain ⟨a, xs, rfl, h1, h2⟩ := Is.tup h
  exact ⟨a, rfl, by rw [← IsL.str_eq h2]; exact h1⟩
theorem is_nm {ns : List Str} {a : Addr} (h : SqT K H a (ns.map V.str)) : Is K H (nmD ns) (.ref a) := Is.of_tup h (is_strs ns)
theorem Is.pr {p : Str × Str} {v : V} (h : Is K H (prD p) v) : ∃ a, v = .ref a ∧ SqT K H a [.str p.1, .str p.2] := by
  obtain ⟨a, xs, rfl, h1, h2⟩ := Is.tup h
  simp only [IsL, Is] at h2
  obtain ⟨_, _, rfl, rfl, _, _, rfl, rfl, rfl⟩ := h2
  exact ⟨a, rfl, h1⟩
theorem is_pr {x y : Str} {a : Addr} (h : SqT K H a [.str x, .str y]) : Is K H (prD (x, y)) (.ref a) := Is.of_tup h (.cons is_str (.one is_str))
theorem Is.hf {ns : List Str} {ps : List (Str × Str)} {v : V} (h : Is K H (hfD ns ps) v) : ∃ a x y, v = .ref a ∧ SqT K H a [x, y] ∧ Is K H (nmD ns) x ∧ Is K H (psD ps) y := by
  obtain ⟨a, xs, rfl, h1, h2⟩ := Is.tup h
  simp only [IsL] at h2
  obtain ⟨x, _, rfl, hx, y, _, rfl, hy, rfl⟩ := h2
  exact ⟨a, x, y, rfl, h1, hx, hy⟩
theorem is_hf {ns : List Str} {ps : List (Str × Str)} {a : Addr} {x y : V} (h : SqT K H a [x, y]) (hx : Is K H (nmD ns) x) (hy : Is K H (psD ps) y) : Is K H (hfD ns ps) (.ref a) := Is.of_tup h (.cons hx (.one hy))
theorem Is.nm_fz {ns : List Str} {v : V} (h : Is K H (nmD ns) v) (e : Fz H H') : Is K H' (nmD ns) v := Is.fz e _ _ (frz_nm ns) h
theorem Is.pr_fz {p : Str × Str} {v : V} (h : Is K H (prD p) v) (e : Fz H H') : Is K H' (prD p) v := Is.fz e _ _ (frz_pr p) h
theorem Is.hf_fz {ns : List Str} {ps : List (Str × Str)} {v : V} (h : Is K H (hfD ns ps) v) (e : Fz H H') : Is K H' (hfD ns ps) v := Is.fz e _ _ (frz_hf ns ps) h
variable {σ : St} {Q : VK} {x v : V} {i : Int}
theorem i_ixQ {a : Addr} {xs : List V} (h : SqT K H a xs) (e : atI xs i = some v) (k : Q v H) : rIxA K (.ref a) (.int i) H Q := .inl (.inr (.inl ⟨a, xs, i, v, rfl, rfl, h, e, k⟩))
theorem i_ixLQ {a : Addr} {xs : List V} (h : SqL K H a xs) (e : atI xs i = some v) (k : Q v H) : rIxA K (.ref a) (.int i) H Q := .inl (.inl ⟨a, xs, i, v, rfl, rfl, h, e, k⟩)
theorem i_ixN {ns : List Str} {z : Str} (h : Is K H (nmD ns) x) (e : atI ns i = some z) (k : Q (.str z) H) : rIxA K x (.int i) H Q := by
  obtain ⟨a, rfl, h1⟩ := h.nm
  refine i_ixQ h1 ?_ k
  unfold atI at e ⊢
  rw [List.length_map]
  cases hj : ixN ns.length i with
  | none => rw [hj] at e; cases e
  | some j =>
    rw [hj] at e
    show (ns.map V.str)[j]? = _
    rw [List.getElem?_map, show ns[j]? = some z from e]
    rfl
theorem i_ixH0 {ns : List Str} {ps : List (Str × Str)} (h : Is K H (hfD ns ps) x) (k : ∀ v, Is K H (nmD ns) v → Q v H) : rIxA K x (.int 0) H Q := by
  obtain ⟨a, u, w, rfl, h1, h2, h3⟩ := h.hf
  exact i_ixQ h1 rfl (k u h2)
theorem i_ixH1 {ns : List Str} {ps : List (Str × Str)} (h : Is K H (hfD ns ps) x) (k : ∀ v, Is K H (psD ps) v → Q v H) : rIxA K x (.int 1) H Q := by
  obtain ⟨a, u, w, rfl, h1, h2, h3⟩ := h.hf
  exact i_ixQ h1 rfl (k w h3)
theorem i_ixP0 {p : Str × Str} (h : Is K H (prD p) x) (k : Q (.str p.1) H) : rIxA K x (.int 0) H Q := by
  obtain ⟨a, rfl, h1⟩ := h.pr
  exact i_ixQ h1 rfl k
theorem i_ixP1 {p : Str × Str} (h : Is K H (prD p) x) (k : Q (.str p.2) H) : rIxA K x (.int 1) H Q := by
  obtain ⟨a, rfl, h1⟩ := h.pr
  exact i_ixQ h1 rfl k
theorem i_lenQ {ds : List PyData} (h : Is K H (.tuple ds) x) (k : Q (.int ds.length) H) : rLenA K [x] H Q := by
  obtain ⟨a, xs, rfl, h1, h2⟩ := h.tup
  rw [IsL.length h2] at k
  exact .inl ⟨.ref a, _, rfl, .inr ⟨xs, h1, rfl⟩, k⟩
theorem i_lenN {ns : List Str} (h : Is K H (nmD ns) x) (k : Q (.int ns.length) H) : rLenA K [x] H Q := i_lenQ h (by rw [List.length_map]; exact k)
theorem flat_strs (ns : List Str) : (ns.map V.str).all flatV = true := by
  rw [List.all_eq_true]
  intro v h
  obtain ⟨n, _, rfl⟩ := List.mem_map.mp h
  rfl
theorem inV_strs (z : Str) : ∀ ns : List Str, inV (.str z) (ns.map V.str) = decide (z ∈ ns)
  | [] => rfl
  | n :: ns => by
    have ih := inV_strs z ns
    unfold inV at ih ⊢
    rw [List.map_cons, List.any_cons, ih]
    have e : eqV (V.str n) (V.str z) = decide (n = z) := by
      show (n == z) = _
      by_cases h : n = z <;> simp [h]
    rw [e]
    by_cases h : n = z
    · subst h
      simp
    · have h' : ¬ z = n := fun q => h q.symm
      by_cases g : z ∈ ns <;> simp [h, h', g]
theorem i_inLN {ns : List Str} {z : Str} {a : Addr} (h : SqL K H a (ns.map V.str)) (k : Q (.bl (decide (z ∈ ns))) H) : rInA K false (.str z) (.ref a) H Q :=
  .inl ⟨a, _, rfl, .inl h, rfl, flat_strs ns, by rw [inV_strs]; exact k⟩
theorem i_ninN {ns : List Str} {z : Str} (h : Is K H (nmD ns) x) (k : Q (.bl (!decide (z ∈ ns))) H) : rInA K true (.str z) x H Q := by
  obtain ⟨a, rfl, h1⟩ := h.nm
  exact .inl ⟨a, _, rfl, .inr h1, rfl, flat_strs ns, by rw [inV_strs]; exact k⟩
theorem i_ninLN {ns : List Str} {z : Str} {a : Addr} (h : SqL K H a (ns.map V.str)) (k : Q (.bl (!decide (z ∈ ns))) H) : rInA K true (.str z) (.ref a) H Q :=
  .inl ⟨a, _, rfl, .inl h, rfl, flat_strs ns, by rw [inV_strs]; exact k⟩
theorem i_gpair {p : Str × Str} {n m : Nat} {R : St → Hp → Prop} (h : Is K H (prD p) x) (k : R ((σ.set n (some (.str p.1))).set m (some (.str p.2))) H) : gTup K 2 (gCons (gName n) (gCons (gName m) gNil)) x σ H R := by
  obtain ⟨a, rfl, h1⟩ := h.pr
  exact ⟨a, _, rfl, h1, rfl, .str p.1, [.str p.2], rfl, .str p.2, [], rfl, rfl, k⟩
theorem for_is {ds : List PyData} {g : TG} {tb : TS} {D : Ends} (h : Is K H (.tuple ds) x) (hf : frzL ds = true) (Pv : Nat → St → Hp → Prop) (h0 : Pv 0 σ H) (hG : ∀ i σ' H', Pv i σ' H' → Fz H H')
    (hs : ∀ i d v σ' H', ds[i]? = some d → Is K H' d v → Pv i σ' H' → g v σ' H' fun σ2 H2 => tb { D with nx := Pv (i + 1), ct := Pv (i + 1), bk := D.nx } σ2 H2) (hd : ∀ σ' H', Pv ds.length σ' H' → D.nx σ' H') :
    rAnyIt K x H fun J H1 => rFor g tb D σ J H1 := by
  obtain ⟨a, xs, rfl, h1, h2⟩ := h.tup
  refine i_itT h1 (for_by walk_tup Pv h0 (fun i σ' H' p => (hG i σ' H' p).seq h1) (fun i v σ' H' hx hi p => ?_) fun σ' H' p => hd σ' H' (by rw [IsL.length h2]; exact p))
  obtain ⟨d, e1, e2⟩ := IsL.get (IsL.fz (hG i σ' H' p) ds xs hf h2) hx
  exact hs i d v σ' H' e1 e2 p
theorem for_ps {ps : List (Str × Str)} {g : TG} {tb : TS} {D : Ends} (h : Is K H (psD ps) x) (Pv : Nat → St → Hp → Prop) (h0 : Pv 0 σ H) (hG : ∀ i σ' H', Pv i σ' H' → Fz H H')
    (hs : ∀ i p v σ' H', ps[i]? = some p → Is K H' (prD p) v → Pv i σ' H' → g v σ' H' fun σ2 H2 => tb { D with nx := Pv (i + 1), ct := Pv (i + 1), bk := D.nx } σ2 H2) (hd : ∀ σ' H', Pv ps.length σ' H' → D.nx σ' H') :
    rAnyIt K x H fun J H1 => rFor g tb D σ J H1 :=
  for_is h (frzL_prs ps) Pv h0 hG (fun i d v σ' H' e h p => by
    rw [List.getElem?_map] at e
    cases hn : ps[i]? with
    | none => rw [hn] at e; cases e
    | some z =>
      rw [hn] at e
      cases e
      exact hs i z v σ' H' hn h p) fun σ' H' p => hd σ' H' (by rw [List.length_map] at p; exact p)
theorem frzL_map {α : Type} (f : α → PyData) (hf : ∀ a, frz (f a) = true) : ∀ xs : List α, frzL (xs.map f) = true
  | [] => rfl
  | x :: xs => by simp only [List.map_cons, frzL, hf, frzL_map f hf xs, Bool.and_self]
theorem comp_dat {α : Type} {J : It} {xs : List V} {G : Hp → Prop} {g : TG} {tt : TT} {te : TE} {Q : VK} {k : Nat} {js : List Nat} (hw : WalkOf J xs G) (as : List α) (hl : as.length = xs.length) (t : α → Bool) (f : α → PyData) (hf : ∀ a, frz (f a) = true) (hz : xs.length ≤ 1000000) (hG : ∀ H', Same H H' → G H')
    (hs : ∀ (i : Nat) a v H1 (R : VK) (R' : Hp → Prop), as[i]? = some a → xs[i]? = some v → Same H H1 → (t a = true → ∀ y H2, Same H1 H2 → Is K H2 (f a) y → R y H2) → (t a = false → ∀ H2, Same H1 H2 → R' H2) →
      g v (List.replicate k none ++ pick σ js) H1 fun σ2 H2 => tt σ2 H2 fun b H3 => if b = true then te σ2 H3 R else R' H3)
    (hd : ∀ p ys H', H p = none → Same H H' → H' p = some (.lst ys) → IsL K H' ((as.filter t).map f) ys → Q (.ref p) H') : rComp k js g tt te σ J H Q := by
  refine comp_by hw (fun p i acc H1 => Same H H1 ∧ IsL K H1 (((as.take i).filter t).map f) acc) (fun p H' hp e h => ⟨e, by simp only [List.take_zero, List.filter_nil, List.map_nil]; exact .nil⟩) (fun p i acc H1 h => hG H1 h.1) (fun p i x acc H1 hp hx hi hl1 ha ⟨e, hacc⟩ => ?_) fun p acc H1 hp ha hl1 ⟨e, hacc⟩ => ?_
  · have hi' : i < as.length := by omega
    obtain ⟨a, hai⟩ : ∃ a, as[i]? = some a := ⟨as[i], List.getElem?_eq_getElem hi'⟩
    have ht : as.take (i + 1) = as.take i ++ [a] := by rw [List.take_add_one, hai]; rfl
    refine hs i a x H1 _ _ hai hx e (fun h y H2 e2 hy => ?_) fun h H2 e2 => ?_
    · refine push_i hz hi hl1 (e2 _ _ ha) fun H' e' h' => ⟨fun b o hb => e' b o (ne_of_none hb hp) (e2 _ _ (e b o hb)), ?_⟩
      rw [ht, List.filter_append, List.map_append]
      have fz := e'.fzL (e2 _ _ ha)
      refine IsL.append (IsL.fz (e2.fz.trans fz) _ _ (frzL_map f hf _) hacc) ?_
      simp only [List.filter_cons, h, if_true, List.filter_nil, List.map_cons, List.map_nil]
      exact .one (Is.fz fz _ _ (hf a) hy)
    · refine cn_skip hi hl1 (e2 _ _ ha) ⟨e.trans e2, ?_⟩
      rw [ht, List.filter_append, List.map_append]
      simp only [List.filter_cons, h, Bool.false_eq_true, if_false, List.filter_nil, List.map_nil, List.append_nil]
      exact IsL.mono e2 _ _ hacc
  · refine hd p acc H1 hp e ha ?_
    rw [← hl, List.take_length] at hacc
    exact hacc
end
end L2
set_option Elab.async false
set_option linter.all false
set_option maxRecDepth 100000
set_option maxHeartbeats 4000000
namespace L2
open PySem PySem.Spec PyProof.Rows
section
variable {X : Cx} {K : PySem.W.Frag}
noncomputable def isDisp : PyData → Bool
  | .list _ => true
  | .tuple _ => true
  | _ => false
mutual
theorem Is.noDict {H : Hp} : ∀ (d : PyData) (v : V), Is K H d v → d.hasDict = false
  | .none, _, h => by simp only [PyData.hasDict]
  | .bool _, _, h => by simp only [PyData.hasDict]
  | .int _, _, h => by simp only [PyData.hasDict]
  | .str _, _, h => by simp only [PyData.hasDict]
  | .list ds, v, h => by
    simp only [Is] at h
    obtain ⟨a, xs, e1, e2, e3⟩ := h
    simp only [PyData.hasDict]
    exact IsL.noDict ds xs e3
  | .tuple ds, v, h => by
    simp only [Is] at h
    obtain ⟨a, xs, e1, e2, e3⟩ := h
    simp only [PyData.hasDict]
    exact IsL.noDict ds xs e3
  | .dict _, _, h => by simp only [Is] at h
theorem IsL.noDict {H : Hp} : ∀ (ds : List PyData) (vs : List V), IsL K H ds vs → PyData.hasDictAll ds = false
  | [], _, h => by simp only [PyData.hasDictAll]
  | d :: ds, vs, h => by
    simp only [IsL] at h
    obtain ⟨v, r, e1, e2, e3⟩ := h
    simp only [PyData.hasDictAll, Is.noDict d v e2, IsL.noDict ds r e3, Bool.or_self]
end
structure Sh (d : PyData) : Prop where
  dp : isDisp d = true
  sh : d.showable = true
  fits : d.shown.length ≤ sizeLine
  deep : d.depth ≤ 100
noncomputable def rReprK (K : PySem.W.Frag) : List V → Hp → VK → Prop := fun xs H Q => rReprA xs H Q ∨ ∃ x d, xs = [x] ∧ Is K H d x ∧ Sh d ∧ Q (.str d.shown) H
theorem call_reprD (hq : QA X.A) : CallR X (.builtin "repr") (fun xs H Q => ∃ x d, xs = [x] ∧ Is X.K H d x ∧ Sh d ∧ Q (.str d.shown) H) := by
  intro pins s σ H xs us Q I rv h
  obtain ⟨x, d, rfl, i, S, q⟩ := h
  obtain ⟨u, rfl, ru⟩ := rv.one
  obtain ⟨as, ra⟩ := Is.reads I d x u i ru
  have href : ∃ a, u = .ref a := by
    have hd := S.dp
    cases d with
    | list ds => simp only [Is] at i; obtain ⟨a, _, rfl, _⟩ := i; exact ⟨a, ru⟩
    | tuple ds => simp only [Is] at i; obtain ⟨a, _, rfl, _⟩ := i; exact ⟨a, ru⟩
    | _ => cases hd
  obtain ⟨a, rfl⟩ := href
  refine repr_of_reads' ra S.sh (fun hx => absurd hx (by rw [Is.noDict d x i]; exact Bool.false_ne_true)) hq.gd (by have := hq.un; have := S.deep; omega) (fun _ _ e => e) (fun h' t tk hk => ?_) S.fits
  exact ⟨.str d.shown, H, I.kept hk, ⟨t, rfl⟩, q⟩
theorem call_reprK (hq : QA X.A) (hK : X.K = K := by with_unfolding_all rfl) : CallR X (.builtin "repr") (rReprK K) := hK ▸ call_reprA.or (call_reprD hq)
theorem i_repr {d : PyData} {x : V} {H : Hp} {Q : VK} (h : Is K H d x) (S : Sh d) (k : Q (.str d.shown) H) : rReprK K [x] H Q := .inr ⟨x, d, rfl, h, S, k⟩
noncomputable def strRep (z : Str) (n : Nat) : Str := ⟨(List.replicate n z.cps).foldl (· ++ ·) #[]⟩
noncomputable def rMulS : R2 := fun x y H Q => ∃ z n, x = .str z ∧ y = .int n ∧ 2 ≤ n ∧ n ≤ 1000 ∧ z.length ≤ 1000 ∧ 0 < z.length ∧ Q (.str (strRep z n.toNat)) H
theorem op_mulS : OpR X (binaryOp .Mult) rMulS := by
  intro pins s σ H x y v u Q I rx ry h
  obtain ⟨z, n, rfl, rfl, h1, h2, h3, h4, q⟩ := h
  obtain ⟨t, rfl⟩ := rx
  obtain ⟨t2, rfl⟩ := ry
  have a1 : ¬ n < 1 := by omega
  have a2 : (n == 1 || z.length == 0) = false := by
    have e1 : (n == 1) = false := by simp; omega
    have e2 : (z.length == 0) = false := by simp; omega
    rw [e1, e2]; rfl
  have hz : z.length * n.toNat ≤ 1000000 := by
    have : z.length * n.toNat ≤ 1000 * 1000 := Nat.mul_le_mul h3 (by omega)
    omega
  have hlen : (strRep z n.toNat).length ≤ sizeLine := by
    have e : ∀ (m : Nat) (a : Array Nat), ((List.replicate m z.cps).foldl (· ++ ·) a).size = a.size + m * z.cps.size := by
      intro m
      induction m with
      | zero => intro a; simp
      | succ m ih => intro a; rw [List.replicate_succ, List.foldl_cons, ih, Array.size_append, Nat.succ_mul]; omega
    show ((List.replicate n.toNat z.cps).foldl (· ++ ·) #[]).size ≤ sizeLine
    rw [e]
    have e2 : z.cps.size = z.length := rfl
    rw [e2, sizeLine_eq, Nat.mul_comm]
    simp
    omega
  refine PySem.P.mul_str (by
      have b1 : ¬ n < -(2 ^ 63 : Int) := by omega
      have b2 : ¬ n ≥ 2 ^ 63 := by omega
      rw [decide_eq_false b1, decide_eq_false b2]; rfl) (fun _ _ => ?_) (fun _ _ => ?_) ?_
  · have : (2 ^ 63 - 1 : Int) / n ≥ 1000 := by
      refine Int.le_ediv_of_mul_le (by omega) ?_
      have : 1000 * n ≤ 1000 * 1000 := by omega
      omega
    omega
  · have hz2 : z.length * n.toNat ≤ sizeLine := line_of hz
    rw [sizeLine_eq] at hz2
    unfold Builtin.Str.tooLong
    simp [sizeLine_eq]
    omega
  · rw [if_neg a1, a2, if_neg Bool.false_ne_true]
    exact ⟨hlen, .str _, H, I.kept fun _ _ e => e, ⟨_, rfl⟩, q⟩
noncomputable def rMulB : R2 := fun x y H Q => rMulA x y H Q ∨ rMulS x y H Q
theorem op_mulB : OpR X (binaryOp .Mult) rMulB := op_mulA.or op_mulS
theorem i_mulBI {i j : Int} {H : Hp} {Q : VK} (h : CMul i j) (k : Q (.int (i * j)) H) : rMulB (.int i) (.int j) H Q := .inl (i_mulI h k)
theorem i_mulBS {z : Str} {n : Int} {H : Hp} {Q : VK} (h : 2 ≤ n ∧ n ≤ 1000 ∧ z.length ≤ 1000 ∧ 0 < z.length) (k : Q (.str (strRep z n.toNat)) H) : rMulB (.str z) (.int n) H Q := .inr ⟨z, n, rfl, rfl, h.1, h.2.1, h.2.2.1, h.2.2.2, k⟩
noncomputable def insL (xs : List V) (i : Nat) (y : V) : List V := xs.take i ++ y :: xs.drop i
noncomputable def rInsert : V → List V → Hp → VK → Prop := fun x vs H Q => ∃ l xs i y, x = .ref l ∧ vs = [.int i, y] ∧ H l = some (.lst xs) ∧ 0 ≤ i ∧ i ≤ xs.length ∧ xs.length < sizeLine ∧ Q .non (upd H l (.lst (insL xs i.toNat y)))
theorem mt_insert : MtM X "list.insert" rInsert := by
  intro pins s σ H x vs v us Q I rx rv h
  obtain ⟨l, xs, i, y, rfl, rfl, hH, h0, h1, hz, q⟩ := h
  cases rx
  obtain ⟨u, w, rfl, ru, rw'⟩ := Vals.two rv
  obtain ⟨t, rfl⟩ := ru
  obtain ⟨z, its, n, r, hl, e⟩ := I.lstM hH
  have hlen := r.length
  refine call_meets F.slot_list_insert ⟨_, e, rfl⟩ F.entry_list_insert (F.args_list_insert_3 _ _ _)
    (AutoSeq1.list_insert_list_int_val_1 l its.toArray n i t w (by rw [fitsIndex_both (by omega) (by rw [sizeLine_eq] at hz; omega)]; decide) (by rw [List.size_toArray]; omega)) ⟨e, ?_⟩
  refine ⟨.non, _, I.lset (its' := its.take i.toNat ++ w :: its.drop i.toNat) hH e ?_ ((r.take i.toNat).append (.cons rw' (r.drop i.toNat))) ?_, rfl, q⟩
  · have hi : i.toNat ≤ its.length := by omega
    show (have k := if i < 0 then (i + ((its.toArray.size : Nat) : Int)).toNat else min i.toNat its.toArray.size; (its.toArray.extract 0 k).push w ++ its.toArray.extract k) = _
    rw [if_neg (by omega), List.size_toArray, Nat.min_eq_left hi]
    simp [List.extract_eq_drop_take]
    exact List.take_of_length_le (by rw [List.length_drop]; omega)
  · rw [List.length_append, List.length_cons, List.length_take, List.length_drop]
    omega
section
variable {D : Ends} {σ : St} {H : Hp} {t u : TS} {te td ty tv : TE} {g : TG}
theorem i_cut (M : St → Hp → Prop) (h1 : ∀ N : St → Hp → Prop, (∀ σ' H', M σ' H' → N σ' H') → t { D with nx := N } σ H) (h2 : ∀ σ' H', M σ' H' → u D σ' H') : tSeq t u D σ H := h1 (u D) h2
end
theorem i_listA {a : Addr} {xs : List V} {H : Hp} {Q : VK} (h : SqL K H a xs ∨ SqT K H a xs) (k : ∀ p H', H p = none → Same H H' → H' p = some (.lst xs) → Q (.ref p) H') : rListA K [.ref a] H Q := ⟨a, xs, rfl, h, fun p hp => k p _ hp (Same.upd hp) upd_same⟩
theorem mm {id : String} {r : V → List V → Hp → VK → Prop} (h : MtM X id r) : MtR X id r := h
theorem i_tyLm {a : Addr} {xs : List V} {H : Hp} {B : Prop} (h : H a = some (.lst xs)) (k : B) : tyV K "list" (.ref a) H ∧ B := ⟨.inl ⟨rfl, xs, SqL.of h⟩, k⟩
theorem i_ins {l : Addr} {xs : List V} {y : V} {i : Int} {H : Hp} {Q : VK} (h : H l = some (.lst xs)) (h0 : 0 ≤ i) (h1 : i ≤ xs.length) (hz : xs.length ≤ 1000000) (k : ∀ H', ExtBut l H H' → H' l = some (.lst (insL xs i.toNat y)) → Q .non H') : rInsert (.ref l) [.int i, y] H Q :=
  ⟨l, xs, i, y, rfl, rfl, h, h0, h1, by rw [sizeLine_eq]; omega, k _ ExtBut.upd upd_same⟩
theorem i_appR {l : Addr} {xs : List V} {y : V} {H : Hp} {Q : VK} (h : H l = some (.lst xs)) (hz : xs.length ≤ 1000000) (k : ∀ H', ExtBut l H H' → H' l = some (.lst (xs ++ [y])) → Q .non H') : rAppend (.ref l) [y] H Q :=
  ⟨l, xs, y, rfl, rfl, h, by rw [sizeLine_eq]; omega, k _ ExtBut.upd upd_same⟩
theorem i_popAtR {l : Addr} {xs : List V} {y : V} {i : Int} {H : Hp} {Q : VK} (h : H l = some (.lst xs)) (h0 : 0 ≤ i) (h1 : xs[i.toNat]? = some y) (k : ∀ H', ExtBut l H H' → H' l = some (.lst (xs.eraseIdx i.toNat)) → Q y H') (hz : xs.length ≤ 1000000) : rPopAt (.ref l) [.int i] H Q := by
  have h2 := (List.getElem?_eq_some_iff.mp h1).1
  refine ⟨l, xs, i, i.toNat, y, rfl, rfl, h, by omega, by omega, ?_, h1, k _ ExtBut.upd upd_same⟩
  have e := atI_get (atI_nat (α := V) h1)
  obtain ⟨j, e1, e2, e3, _⟩ := e
  rw [Int.toNat_of_nonneg h0] at e1
  rw [e1]
  have e4 : seqIndex? i xs.length = some i.toNat := by
    unfold seqIndex? at e1 ⊢
    simp [show ¬ i < 0 by omega] at e1 ⊢
    omega
  rw [← e1, e4]
noncomputable def stepV (xs : List V) (k : Int) : List V := if k = 1 then xs else xs.reverse
noncomputable def rSlStep (K : PySem.W.Frag) : V → V → Hp → VK → Prop := fun x y H Q => ∃ a xs k, x = .ref a ∧ y = .int k ∧ (k = 1 ∨ k = -1) ∧ SqL K H a xs ∧ ∀ p, H p = none → Q (.ref p) (upd H p (.lst (stepV xs k)))
theorem pick_one (items : Array Value) : slicePick items none none (some 1) = items := by
  have e : slicePick items none none (some 1) = slicePick items none none none := rfl
  rw [e, slicePick_cut]
  simp [HT.sIx]
  rw [show items.size = items.toList.length by simp, List.take_length]
theorem pe_sliceStep {e st : Expr} {te ts : TE} {p2 pos : Pos} (he : PE X e te) (hst : PE X st ts) (hK : X.K = K := by with_unfolding_all rfl) : PE X (.Subscript e (.Slice none none (some st) p2) pos) (tOp (rSlStep K) te ts) := by
  subst hK
  intro pins s σ H Q I h
  refine Subscript_ (thn (he pins s σ H _ I h) fun v s1 ⟨x, H1, I1, r1, q1⟩ => ?_)
  refine wpAny_Slice ?_
  rw [evalPart_none]
  refine wpAny_pure (wpAny_pure ?_)
  rw [evalPart_some]
  refine thn (hst pins s1 σ H1 _ I1 q1) fun u s2 ⟨y, H2, I2, r2, q2⟩ => ?_
  obtain ⟨a, xs, k, rfl, rfl, hk, hx, q⟩ := q2
  cases r1
  obtain ⟨t, rfl⟩ := r2
  have I4 : Inv X pins σ H2 { s2 with heap := s2.heap.push { cls := .type "slice", data := .fields #[.none, .none, .int k t] } } := I2.kept (t' := s2.toks) fun b ob q => Heap.get?_push_of_some _ q
  obtain ⟨its, r, ht, hz⟩ := I4.list hx
  have hlen := r.length
  refine tail_any (ops := [.ref a, .ref s2.heap.objs.size]) ht.isList.typeIs slot_list_getitem.lookup ?_ (by with_unfolding_all rfl)
  refine wpAny_getItem_list_slice ht.isList (Heap.IsSliceOf.new ..) .none .none (.int k t) (by rcases hk with rfl | rfl <;> decide) ?_ (by rw [List.size_toArray]; omega)
  rcases hk with rfl | rfl
  · rw [pick_one]
    refine ⟨.ref _, _, I4.laid (t' := s2.toks) (o := .lst (stepV xs 1)) (fun b ob q => Heap.get?_push_of_some _ q) (Nat.le_refl _) ?_, rfl, q _ (I4.hok.fresh (Nat.le_refl _))⟩
    exact ⟨hz, _, 0, r, Heap.get?_push_size _ rfl⟩
  · rw [PySem.W.krv_pick]
    refine ⟨.ref _, _, I4.laid (t' := s2.toks) (o := .lst (stepV xs (-1))) (fun b ob q => Heap.get?_push_of_some _ q) (Nat.le_refl _) ?_, rfl, q _ (I4.hok.fresh (Nat.le_refl _))⟩
    exact ⟨by show xs.reverse.length ≤ _; rw [List.length_reverse]; exact hz, _, 0, by show Vals xs.reverse _; exact r.reverse, Heap.get?_push_size _ rfl⟩
theorem i_step {a : Addr} {xs : List V} {k : Int} {H : Hp} {Q : VK} (h : SqL K H a xs) (hk : k = 1 ∨ k = -1) (c : ∀ p H', H p = none → Same H H' → H' p = some (.lst (stepV xs k)) → Q (.ref p) H') : rSlStep K (.ref a) (.int k) H Q :=
  ⟨a, xs, k, rfl, rfl, hk, h, fun p hp => c p _ hp (Same.upd hp) upd_same⟩
end
end L2
set_option Elab.async false
set_option linter.all false
set_option maxRecDepth 100000
set_option maxHeartbeats 4000000
namespace L2
open PySem PySem.Spec PyProof.Rows
noncomputable def smallN (c : Nat) : Bool := decide (97 ≤ c) && decide (c ≤ 122)
noncomputable def isNm (x : Str) : Bool := decide (1 ≤ x.length) && decide (x.length ≤ 8) && x.cps.toList.all smallN
noncomputable def Names (ns : List Str) : Prop := ns.Nodup ∧ ∀ z ∈ ns, isNm z = true
noncomputable def LL : Str := "abcdefghijklmnopqrstuvwxyzabcdefghijklmnopqrstuvwxyz"
theorem LL_rep : strRep "abcdefghijklmnopqrstuvwxyz" (2 : Int).toNat = LL := by decide +kernel
noncomputable def LLn : List Nat := LL.cps.toList
theorem LL_len : LL.length = 52 := by decide +kernel
theorem LLn_len : LLn.length = 52 := by decide +kernel
theorem LL_small : ∀ c ∈ LLn, smallN c = true := by decide +kernel
noncomputable def txt (l : List Nat) : Str := ⟨l.toArray⟩
theorem txt_inj {a b : List Nat} (h : txt a = txt b) : a = b := by
  have : a.toArray = b.toArray := congrArg Str.cps h
  simpa using this
theorem txt_app (a b : List Nat) : txt a ++ txt b = txt (a ++ b) := by
  show (⟨a.toArray ++ b.toArray⟩ : Str) = ⟨(a ++ b).toArray⟩
  simp
theorem txt_name {l : List Nat} (h0 : 1 ≤ l.length) (h1 : l.length ≤ 8) (h2 : ∀ c ∈ l, smallN c = true) : isNm (txt l) = true := by
  unfold isNm
  have e : (txt l).length = l.length := by show l.toArray.size = _; simp
  rw [e, decide_eq_true h0, decide_eq_true h1]
  show (true && true && l.all smallN) = true
  rw [List.all_eq_true.mpr h2]
  rfl
noncomputable def cutN (a b : Nat) : List Nat := (LLn.drop a).take (b - a)
theorem cutN_len {a b : Nat} (h : a ≤ b) (h1 : b ≤ 52) : (cutN a b).length = b - a := by
  unfold cutN
  rw [List.length_take, List.length_drop, LLn_len]
  omega
theorem cutN_small {a b : Nat} : ∀ c ∈ cutN a b, smallN c = true := fun c hc => LL_small c (List.mem_of_mem_drop (List.mem_of_mem_take hc))
theorem LL_cut {i j : Int} (h0 : 0 ≤ i) (h1 : i ≤ j) (h2 : j ≤ 52) : Txt.slice LL (some i) (some j) = txt (cutN i.toNat j.toNat) := by
  have e := StrLaws.sliceText_plain (x := LL) (i := i) (j := j) ⟨h0, h1, by rw [show LL.cps.toList.length = 52 by decide +kernel]; omega⟩
  have e2 : (j - i).toNat = j.toNat - i.toNat := by omega
  rw [e2] at e
  exact e
noncomputable def sgnN (i : Nat) : List Nat := (LLn.drop i).take 1
theorem LL_at {i : Int} (h0 : 0 ≤ i) (h1 : i < 52) : ∃ c, atI LL.cps.toList i = some c ∧ (⟨#[c]⟩ : Str) = txt (sgnN i.toNat) := by
  have h2 : i.toNat < LLn.length := by rw [LLn_len]; omega
  refine ⟨LLn[i.toNat], ?_, ?_⟩
  · have := atI_nat (List.getElem?_eq_getElem h2)
    rwa [Int.toNat_of_nonneg h0] at this
  · unfold sgnN
    rw [List.drop_eq_getElem_cons h2]
    rfl
theorem sgnN_len {i : Nat} (h : i < 52) : (sgnN i).length = 1 := by
  unfold sgnN
  rw [List.length_take, List.length_drop, LLn_len]
  omega
theorem sgnN_small {i : Nat} : ∀ c ∈ sgnN i, smallN c = true := fun c hc => LL_small c (List.mem_of_mem_drop (List.mem_of_mem_take hc))
theorem nodup_map_on {α β : Type} {f : α → β} : ∀ {l : List α}, l.Nodup → (∀ a ∈ l, ∀ b ∈ l, f a = f b → a = b) → (l.map f).Nodup
  | [], _, _ => by simp
  | a :: l, h, hf => by
    rw [List.map_cons, List.nodup_cons]
    rw [List.nodup_cons] at h
    refine ⟨fun hm => ?_, nodup_map_on h.2 fun x hx y hy => hf x (List.mem_cons_of_mem _ hx) y (List.mem_cons_of_mem _ hy)⟩
    obtain ⟨b, hb, e⟩ := List.mem_map.mp hm
    have := hf b (List.mem_cons_of_mem _ hb) a List.mem_cons_self e
    subst this
    exact h.1 hb
theorem inj_of_nodup_map {α β : Type} {f : α → β} : ∀ {l : List α}, (l.map f).Nodup → ∀ a ∈ l, ∀ b ∈ l, f a = f b → a = b
  | [], _, a, ha, _, _, _ => by cases ha
  | c :: l, h, a, ha, b, hb, e => by
    rw [List.map_cons, List.nodup_cons] at h
    rcases List.mem_cons.mp ha with q | ha'
    · rcases List.mem_cons.mp hb with q' | hb'
      · rw [q, q']
      · exact absurd (List.mem_map.mpr ⟨b, hb', by rw [← e, q]⟩) h.1
    · rcases List.mem_cons.mp hb with q' | hb'
      · exact absurd (List.mem_map.mpr ⟨a, ha', by rw [e, q']⟩) h.1
      · exact inj_of_nodup_map h.2 a ha' b hb' e
theorem nodup_txt {l : List (List Nat)} (h : l.Nodup) : (l.map txt).Nodup := nodup_map_on h fun a _ b _ e => txt_inj e
theorem Names.perm {ns ms : List Str} (h : Names ns) (p : ms.Perm ns) : Names ms := ⟨p.nodup_iff.mpr h.1, fun z hz => h.2 z (p.mem_iff.mp hz)⟩
theorem Names.sublist {ns ms : List Str} (h : Names ns) (p : ms.Sublist ns) : Names ms := ⟨h.1.sublist p, fun z hz => h.2 z (p.subset hz)⟩
theorem cut_from {xs : List V} {t : Int} (h0 : 0 ≤ t) (h1 : t ≤ xs.length) : cutV xs (some t) none = xs.drop t.toNat := by
  have e : HT.sIx xs.length 0 (some t) = t.toNat := by unfold HT.sIx; simp [show ¬ t < 0 by omega]; omega
  unfold cutV
  rw [e]
  have e2 : HT.sIx xs.length xs.length none = xs.length := rfl
  rw [e2]
  exact List.take_of_length_le (by rw [List.length_drop]; omega)
theorem cut_upto {xs : List V} {t : Int} (h0 : 0 ≤ t) : cutV xs none (some t) = xs.take t.toNat := by
  have e : HT.sIx xs.length xs.length (some t) = min t.toNat xs.length := by unfold HT.sIx; simp [show ¬ t < 0 by omega]
  unfold cutV
  rw [e]
  have e2 : HT.sIx xs.length 0 none = 0 := rfl
  rw [e2, List.drop_zero, Nat.sub_zero, Nat.min_comm]
  rw [← List.take_take]
  exact List.take_of_length_le (by rw [List.length_take]; omega)
theorem rng_get {lo : Int} {n i : Nat} {x : V} (h : ((List.range n).map fun (i : Nat) => V.int (lo + (i : Int)))[i]? = some x) : x = .int (lo + (i : Int)) ∧ i < n := by
  rw [List.getElem?_map] at h
  cases e : (List.range n)[i]? with
  | none => rw [e] at h; cases h
  | some j =>
    rw [e] at h
    cases h
    have e1 := List.getElem?_eq_some_iff.mp e
    obtain ⟨h1, h2⟩ := e1
    rw [List.length_range] at h1
    rw [List.getElem_range] at h2
    subst h2
    exact ⟨rfl, h1⟩
noncomputable def fI (F : Int → V) : V → V
  | .int k => F k
  | v => v
theorem map_rng {lo : Int} {n : Nat} {F : Int → V} {G : Nat → Str} (h : ∀ k < n, F (lo + (k : Int)) = .str (G k)) : ((List.range n).map fun (i : Nat) => V.int (lo + (i : Int))).map (fI F) = ((List.range n).map G).map V.str := by
  rw [List.map_map, List.map_map]
  refine List.map_congr_left fun k hk => ?_
  exact h k (List.mem_range.mp hk)
theorem LL_line : LL.length ≤ sizeLine := by rw [LL_len, sizeLine_eq]; omega
theorem ExtBut.off {d q : Addr} {H H1 H2 : Hp} (e : ExtBut d H H1) (hq : H q = none) (e2 : ExtBut q H1 H2) : ExtBut d H H2 := fun b o n h => e2 b o (ne_of_none h hq) (e b o n h)
theorem Same.off {q : Addr} {H H1 H2 : Hp} (e : Same H H1) (hq : H q = none) (e2 : ExtBut q H1 H2) : Same H H2 := fun b o h => e2 b o (ne_of_none h hq) (e b o h)
noncomputable def Up (ls : List Str) (ps : List (Str × Str)) : Prop := ∀ p ∈ ps, ∃ i j : Nat, i < j ∧ ls[i]? = some p.1 ∧ ls[j]? = some p.2
theorem Up.nil {ls : List Str} : Up ls [] := fun _ h => by cases h
theorem Up.sub {ls : List Str} {ps qs : List (Str × Str)} (h : Up ls ps) (s : ∀ p ∈ qs, p ∈ ps) : Up ls qs := fun p hp => h p (s p hp)
theorem str_at? {ls : List Str} {i : Int} (h0 : 0 ≤ i) (h1 : i < ls.length) : ∃ z, ls[i.toNat]? = some z ∧ atI (ls.map V.str) i = some (.str z) ∧ atI ls i = some z := by
  have h2 : i.toNat < ls.length := by omega
  refine ⟨ls[i.toNat], List.getElem?_eq_getElem h2, ?_, ?_⟩
  · have := atI_nat (xs := ls.map V.str) (j := i.toNat) (v := .str ls[i.toNat]) (by rw [List.getElem?_map, List.getElem?_eq_getElem h2]; rfl)
    rwa [Int.toNat_of_nonneg h0] at this
  · have := atI_nat (List.getElem?_eq_getElem h2)
    rwa [Int.toNat_of_nonneg h0] at this
theorem perm_erase {α : Type} : ∀ (us : List α) (k : Nat) (y : α), us[k]? = some y → (y :: us.eraseIdx k).Perm us
  | [], k, y, h => by simp at h
  | u :: us, 0, y, h => by
    have : u = y := by simpa using h
    subst this
    exact List.Perm.refl _
  | u :: us, k + 1, y, h => by
    have ih := perm_erase us k y (by simpa using h)
    exact (List.Perm.swap u y _).trans (ih.cons u)
theorem perm_pop {α : Type} {us : List α} {k : Nat} {y : α} (h : us[k]? = some y) (vs : List α) : (vs ++ [y] ++ us.eraseIdx k).Perm (vs ++ us) := by
  rw [List.append_assoc]
  exact List.Perm.append_left vs (perm_erase us k y h)
end L2
set_option Elab.async false
set_option linter.all false
set_option maxRecDepth 100000
set_option maxHeartbeats 4000000
namespace L2
open PySem PySem.Spec PyProof.Rows
inductive Way (ps : List (Str × Str)) : Str → Str → Prop
  | one {x y : Str} : (x, y) ∈ ps → Way ps x y
  | cons {x z y : Str} : (x, z) ∈ ps → Way ps z y → Way ps x y
theorem Way.trans {ps : List (Str × Str)} {x y z : Str} (h : Way ps x y) (g : Way ps y z) : Way ps x z := by
  induction h with
  | one e => exact .cons e g
  | cons e _ ih => exact .cons e (ih g)
theorem Way.right {ps : List (Str × Str)} {x y : Str} (h : Way ps x y) : y ∈ ps.map (·.2) := by
  induction h with
  | one e => exact List.mem_map.mpr ⟨_, e, rfl⟩
  | cons _ _ ih => exact ih
theorem Up.lt {ls : List Str} (hn : ls.Nodup) {ps : List (Str × Str)} (h : Up ls ps) {x y : Str} (g : Way ps x y) : ∃ i j : Nat, i < j ∧ ls[i]? = some x ∧ ls[j]? = some y := by
  induction g with
  | one e => exact h _ e
  | cons e _ ih =>
    obtain ⟨i, j, h1, h2, h3⟩ := h _ e
    obtain ⟨i', j', g1, g2, g3⟩ := ih
    have e : j = i' := by
      obtain ⟨a, b⟩ := List.getElem?_eq_some_iff.mp h3
      obtain ⟨c, d⟩ := List.getElem?_eq_some_iff.mp g2
      exact (List.getElem_inj hn).mp (b.trans d.symm)
    exact ⟨i, j', by omega, h2, g3⟩
theorem Up.irrefl {ls : List Str} (hn : ls.Nodup) {ps : List (Str × Str)} (h : Up ls ps) {x : Str} : ¬ Way ps x x := fun g => by
  obtain ⟨i, j, h1, h2, h3⟩ := h.lt hn g
  obtain ⟨a, b⟩ := List.getElem?_eq_some_iff.mp h2
  obtain ⟨c, d⟩ := List.getElem?_eq_some_iff.mp h3
  have := (List.getElem_inj hn).mp (b.trans d.symm)
  omega
theorem Up.mem {ls : List Str} {ps : List (Str × Str)} (h : Up ls ps) {p : Str × Str} (hp : p ∈ ps) : p.1 ∈ ls ∧ p.2 ∈ ls := by
  obtain ⟨i, j, _, h2, h3⟩ := h p hp
  exact ⟨List.mem_of_getElem? h2, List.mem_of_getElem? h3⟩
structure Half (ns : List Str) (ps : List (Str × Str)) : Prop where
  names : Names ns
  few : ns.length ≤ 10
  le : ps.length ≤ 60
  line : ∃ ls : List Str, ls.Perm ns ∧ Up ls ps
theorem Half.irrefl {ns : List Str} {ps : List (Str × Str)} (h : Half ns ps) {x : Str} : ¬ Way ps x x := by
  obtain ⟨ls, h1, h2⟩ := h.line
  exact h2.irrefl (h1.nodup_iff.mpr h.names.1)
theorem Half.mem {ns : List Str} {ps : List (Str × Str)} (h : Half ns ps) {p : Str × Str} (hp : p ∈ ps) : p.1 ∈ ns ∧ p.2 ∈ ns := by
  obtain ⟨ls, h1, h2⟩ := h.line
  have := h2.mem hp
  exact ⟨h1.mem_iff.mp this.1, h1.mem_iff.mp this.2⟩
theorem eqv_nil_strs (ls : List Str) : PyData.eqv (.list (ls.map PyData.str)) (.list []) = ls.isEmpty := by
  cases ls <;> simp [PyData.eqv, PyData.eqvAll]
mutual
def plainD : PyData → Bool
  | .none => true
  | .bool _ => true
  | .str x => PyData.strOk x
  | .list ds => plainL ds
  | .tuple ds => plainL ds
  | _ => false
def plainL : List PyData → Bool
  | [] => true
  | d :: ds => plainD d && plainL ds
end
mutual
theorem plain_lay : ∀ d : PyData, plainD d = true → d.canLay0 = true
  | .none, _ => by simp only [PyData.canLay0]
  | .bool _, _ => by simp only [PyData.canLay0]
  | .str x, h => by simpa only [PyData.canLay0, plainD] using h
  | .list ds, h => by simp only [PyData.canLay0]; exact plain_layL ds (by simpa only [plainD] using h)
  | .tuple ds, h => by simp only [PyData.canLay0]; exact plain_layL ds (by simpa only [plainD] using h)
  | .int _, h => by simp [plainD] at h
  | .dict _, h => by simp [plainD] at h
theorem plain_layL : ∀ ds : List PyData, plainL ds = true → PyData.canLayAll0 ds = true
  | [], _ => by simp only [PyData.canLayAll0]
  | d :: ds, h => by
    simp only [plainL, Bool.and_eq_true] at h
    simp only [PyData.canLayAll0, plain_lay d h.1, plain_layL ds h.2, Bool.and_self]
end
structure Fine (d : PyData) : Prop where
  plain : plainD d = true
  deep : d.depth ≤ 60
  light : d.weight ≤ 1000000
theorem Fine.shaped {d : PyData} (h : Fine d) : SeqAt.shaped d = true := by
  unfold SeqAt.shaped
  rw [plain_lay d h.plain, decide_eq_true (Nat.le_trans h.deep (by decide))]
  rfl
theorem nm_ok {z : Str} (h : isNm z = true) : PyData.strOk z = true ∧ z.cps.size ≤ 8 := by
  unfold isNm at h
  simp only [Bool.and_eq_true, decide_eq_true_eq] at h
  refine ⟨?_, h.1.2⟩
  unfold PyData.strOk
  rw [← Array.all_toList, List.all_eq_true]
  intro c hc
  have := List.all_eq_true.mp h.2 c hc
  unfold smallN at this
  simp only [Bool.and_eq_true, decide_eq_true_eq] at this
  exact decide_eq_true (by omega)
theorem plainL_map {α : Type} (f : α → PyData) : ∀ xs : List α, (∀ a ∈ xs, plainD (f a) = true) → plainL (xs.map f) = true
  | [], _ => by simp only [List.map_nil, plainL]
  | x :: xs, h => by simp only [List.map_cons, plainL, h x List.mem_cons_self, plainL_map f xs fun a ha => h a (List.mem_cons_of_mem _ ha), Bool.and_self]
theorem depth_map {α : Type} (f : α → PyData) (n : Nat) : ∀ xs : List α, (∀ a ∈ xs, (f a).depth ≤ n) → PyData.depthAll (xs.map f) ≤ n
  | [], _ => by simp only [List.map_nil, PyData.depthAll]; omega
  | x :: xs, h => by
    have h1 := h x List.mem_cons_self
    have h2 := depth_map f n xs fun a ha => h a (List.mem_cons_of_mem _ ha)
    simp only [List.map_cons, PyData.depthAll]
    omega
theorem weight_map {α : Type} (f : α → PyData) (n : Nat) : ∀ xs : List α, (∀ a ∈ xs, (f a).weight ≤ n) → PyData.weightAll (xs.map f) ≤ xs.length * (n + 1)
  | [], _ => by simp only [List.map_nil, PyData.weightAll]; omega
  | x :: xs, h => by
    have h1 := h x List.mem_cons_self
    have h2 := weight_map f n xs fun a ha => h a (List.mem_cons_of_mem _ ha)
    simp only [List.map_cons, PyData.weightAll, List.length_cons, Nat.add_mul]
    omega
theorem nm_facts {ns : List Str} (h : ∀ z ∈ ns, isNm z = true) : plainD (nmD ns) = true ∧ (nmD ns).depth ≤ 1 ∧ (nmD ns).weight ≤ ns.length * 9 := by
  refine ⟨by simp only [nmD, plainD]; exact plainL_map _ ns fun z hz => by simp only [plainD]; exact (nm_ok (h z hz)).1, ?_, ?_⟩
  · simp only [nmD, PyData.depth]
    have := depth_map PyData.str 0 ns fun z hz => by simp only [PyData.depth]; omega
    omega
  · simp only [nmD, PyData.weight]
    exact weight_map PyData.str 8 ns fun z hz => by simp only [PyData.weight]; exact (nm_ok (h z hz)).2
noncomputable def NmP (ps : List (Str × Str)) : Prop := ∀ p ∈ ps, isNm p.1 = true ∧ isNm p.2 = true
theorem fine_nm {ns : List Str} (h : ∀ z ∈ ns, isNm z = true) (hl : ns.length ≤ 1000) : Fine (nmD ns) := let ⟨a, b, c⟩ := nm_facts h; ⟨a, by omega, by omega⟩
theorem fine_lst {ns : List Str} (h : ∀ z ∈ ns, PyData.strOk z = true) : SeqAt.shaped (.list (ns.map PyData.str)) = true := by
  unfold SeqAt.shaped
  have e : (PyData.list (ns.map PyData.str)).canLay0 = true := plain_lay _ (by simp only [plainD]; exact plainL_map _ ns fun z hz => by simp only [plainD]; exact h z hz)
  have e2 : (PyData.list (ns.map PyData.str)).depth ≤ 64 := by
    simp only [PyData.depth]
    have := depth_map PyData.str 0 ns fun z hz => by simp only [PyData.depth]; omega
    omega
  rw [e, decide_eq_true e2]
  rfl
theorem Half.nmP {ns : List Str} {ps : List (Str × Str)} (h : Half ns ps) : NmP ps := fun p hp => ⟨h.names.2 _ (h.mem hp).1, h.names.2 _ (h.mem hp).2⟩
theorem nodup_le {α : Type} [DecidableEq α] : ∀ {xs ys : List α}, xs.Nodup → (∀ x ∈ xs, x ∈ ys) → xs.length ≤ ys.length
  | [], _, _, _ => Nat.zero_le _
  | x :: xs, ys, h, hs => by
    rw [List.nodup_cons] at h
    have hx : x ∈ ys := hs x List.mem_cons_self
    have ih := nodup_le (xs := xs) (ys := ys.erase x) h.2 fun z hz => by
      refine (List.mem_erase_of_ne ?_).mpr (hs z (List.mem_cons_of_mem _ hz))
      intro e
      subst e
      exact h.1 hz
    rw [List.length_erase_of_mem hx] at ih
    have : 0 < ys.length := List.length_pos_of_mem hx
    rw [List.length_cons]
    omega
section
variable {c : TT} {tb : TS} {D : Ends} {σ : St} {H : Hp}
theorem i_while (W : Nat → St → Hp → Prop) (m : Nat) (h0 : W m σ H)
    (hs : ∀ m σ H, W m σ H → c σ H fun b H1 => if b = true then ∃ N : St → Hp → Prop, (∀ σ' H', N σ' H' → ∃ m', m' < m ∧ W m' σ' H') ∧ tb { D with nx := N, ct := N, bk := D.nx } σ H1 else D.nx σ H1) : tWhile c tb D σ H := ⟨W, ⟨m, h0⟩, hs⟩
theorem i_turn {W : Nat → St → Hp → Prop} {m : Nat} (h : tb { D with nx := fun σ' H' => ∃ m', m' < m ∧ W m' σ' H', ct := fun σ' H' => ∃ m', m' < m ∧ W m' σ' H', bk := D.nx } σ H) :
    ∃ N : St → Hp → Prop, (∀ σ' H', N σ' H' → ∃ m', m' < m ∧ W m' σ' H') ∧ tb { D with nx := N, ct := N, bk := D.nx } σ H := ⟨_, fun _ _ h => h, h⟩
end
end L2
set_option Elab.async false
set_option linter.all false
set_option maxRecDepth 100000
set_option maxHeartbeats 4000000
namespace L2
open PySem PySem.Spec PyProof.Rows
section
variable {X : Cx} {K : PySem.W.Frag}
end
end L2
set_option Elab.async false
set_option linter.all false
set_option maxRecDepth 100000
set_option maxHeartbeats 4000000
namespace L2
open PySem PySem.Spec PyProof.Rows
theorem entry_dloop : entryFor table "dict.update.loop" = some Builtin.«dict.update.loop» := entryFor_of_tree (by kernel_rfl)
theorem plain_dloop : plainId "dict.update.loop" = true := by decide +kernel
theorem list_no_keys : typeLookup (.type "list") "keys" = pure none := by rw [typeLookup_type, builtinLookup_eq_fast]; kernel_rfl
section
variable {prog : Program} {w : World} {κ : Type} [DecidableEq κ] {knd : KeyKind prog w κ} {A : Around} {E : Value → Shared → Prop} {s : Shared}
theorem keys_miss {a : Addr} {xs : Array Value} {k : Nat} {Q : Option Value → Shared → Prop} (hx : s.heap.get? a = some { cls := .type "list", data := .seq xs k }) (hA : A.handled = none)
    (h : ∀ h' tk, (∀ b o, s.heap.get? b = some o → h'.get? b = some o) → Q none { s with heap := h', toks := tk }) : wpAny (model prog w) A (getAttr? (.ref a) "keys") Q E s := by
  obtain ⟨hp, g, d, tk, os⟩ := s
  have hT : ∀ tk', (⟨hp, g, d, tk', os⟩ : Shared).TypeIs (.ref a) "list" := fun _ => ⟨_, hx, rfl⟩
  have f1 := sub_AttributeError
  have f3 := F.slot_list_getattribute.lookup
  have f4 := F.slot_list_getattribute.bind (.ref a)
  have f5 := am_list_getattr_none
  unfold getAttr? getAttrBy? getAttrBy
  repeat (any_goals (first | assumption | exact hT _ | ((with_reducible show wpAny _ _ (call (Value.builtin "list.__getattribute__") _ _) _ _ _); refine call_meets F.slot_list_getattribute (hT _) am_entry_list_getattribute (F.args_list_getattribute_2 _ _) (meets_getattribute_miss_list a xs k #[] "keys" _ list_no_keys (by decide +kernel) (by rw [sizeLine_eq]; decide +kernel)) ⟨hx, hA, fun h' tk' e hx' => ?_⟩) | wp_step))
  obtain ⟨t', u', he⟩ := hx'.there
  show wpAny _ _ (getattributeRaised _ _ _ _ _ _ _) _ _ _
  unfold getattributeRaised
  repeat (any_goals (first | assumption | wp_step))
  exact h _ _ hx'.keeps
theorem pair_items {t : Addr} {k v : Value} {Q : List Value → Shared → Prop} (ht : IsTup s.heap t #[k, v]) (h : Q [k, v] s) : wpAny (model prog w) A (Builtin.Dict.pairItems (.ref t)) Q E s := by
  obtain ⟨o, ho, hc, n, hd⟩ := ht
  unfold Builtin.Dict.pairItems
  refine wpAny_bind (wpAny_typeOf ⟨o, ho, hc⟩ ?_)
  rw [if_pos (by decide)]
  refine wpAny_bind (wpAny_seqItems ho hd ?_)
  exact wpAny_pure h
theorem dict_loop {I D l : Addr} {items : Array Value} (hh : A.in1.handled = none) (hne : l ≠ I) (hDI : D ≠ I) (hDl : D ≠ l) (pk : List (κ × Value × Addr × Value)) (hlen : pk.length = items.size) (hz : items.size ≤ 1000000) :
    ∀ (j i : Nat) (s : Shared) (R : Result → Shared → Prop), items.size - i = j → i ≤ items.size → s.heap.IsListIter I l i → s.heap.IsList l items →
      s.heap.DictOf knd D (merged [] ((pk.take i).map fun p => (p.1, p.2.1))) →
      (∀ (n : Nat) (p : κ × Value × Addr × Value), pk[n]? = some p → items[n]? = some (Value.ref p.2.2.1) ∧ p.2.2.1 ≠ I ∧ p.2.2.1 ≠ D ∧ IsTup s.heap p.2.2.1 #[p.2.2.2, p.2.1] ∧ knd.is p.1 p.2.2.2 = true) →
      (∀ h' tk, h'.DictOf knd D (merged [] (pk.map fun p => (p.1, p.2.1))) → (∀ b o, b ≠ D → b ≠ I → s.heap.get? b = some o → h'.get? b = some o) → R (.ok (.ret .none)) { s with heap := h', toks := tk }) →
      codeAny (model prog w) A (.builtin "dict.update.loop" ⟨[.ref D, .ref I, .int i 0, .none], []⟩) R s := by
  have W := Walks.list (prog := prog) (w := w) hh I l hne items
  intro j
  induction j with
  | zero =>
    intro i s R hj hi hI hL hD hP hR
    have hin : i = items.size := by omega
    subst hin
    refine codeAny_builtin entry_dloop ?_
    rw [Around.under_plainId plain_dloop _]
    show wpAny _ A.in1 (pyNext (.ref I) >>= _) _ _ s
    refine wpAny_bind (W.done s _ _ ⟨hI, hL⟩ fun h' tk hm => ?_)
    show wpAny _ A.in1 (Builtin.Dict.addKeywords D [] >>= _) _ _ _
    refine wpAny_bind (wpAny_pure (wpAny_pure (hR h' tk ?_ fun b o hb hb' e => hm b o (by simpa using hb') e)))
    rw [← hlen, List.take_length] at hD
    obtain ⟨o, es, ep, ho, r⟩ := hD
    exact ⟨o, es, ep, hm D o (by simpa using hDI) ho, r⟩
  | succ j ih =>
    intro i s R hj hi hI hL hD hP hR
    have hlt : i < items.size := by omega
    obtain ⟨p, hp⟩ : ∃ p, pk[i]? = some p := ⟨pk[i]'(by omega), List.getElem?_eq_getElem _⟩
    obtain ⟨q1, q2, q3, q4, q5⟩ := hP i p hp
    refine codeAny_builtin entry_dloop ?_
    rw [Around.under_plainId plain_dloop _]
    show wpAny _ A.in1 (pyNext (.ref I) >>= _) _ _ s
    refine wpAny_bind (W.item i s _ _ hlt ⟨hI, hL⟩ fun v h' tk hv hst hm => ?_)
    have hv' : v = .ref p.2.2.1 := by
      have hv2 : items[i]? = some v := hv
      rw [q1] at hv2
      exact (Option.some.inj hv2).symm
    subst hv'
    have ht' : IsTup h' p.2.2.1 #[p.2.2.2, p.2.1] := by
      obtain ⟨o, ho, r⟩ := q4
      exact ⟨o, hm _ o (by simpa using q2) ho, r⟩
    have hD' : h'.DictOf knd D (merged [] ((pk.take i).map fun p => (p.1, p.2.1))) := by
      obtain ⟨o, es, ep, ho, r⟩ := hD
      exact ⟨o, es, ep, hm D o (by simpa using hDI) ho, r⟩
    show wpAny _ A.in1 (holding [Value.ref p.2.2.1] _ >>= _) _ _ _
    refine wpAny_bind (wpAny_holding ?_)
    refine wpAny_bind (wpAny_tryCatch (pair_items ht' ?_))
    show wpAny _ A.in1 (holding [p.2.2.2, p.2.1] (dictSet D p.2.2.2 p.2.1)) _ _ _
    refine wpAny_holding (wpAny_dictSet_pairs q5 hD' (fun h'' hD'' hs => ?_) ?_)
    · refine wpAny_pure ⟨plainId_quiet plain_dloop _, ?_⟩
      have hkeep : ∀ b o, b ≠ D → b ≠ I → s.heap.get? b = some o → h''.get? b = some o := fun b o h1 h2 e => (hs.2 b h1).trans (hm b o (by simpa using h2) e)
      refine ih (i + 1) _ R (by omega) hlt ?_ ?_ ?_ (fun n p' hp' => ?_) fun h3 tk3 hD3 hk3 => hR h3 tk3 hD3 fun b o h1 h2 e => hk3 b o h1 h2 (hkeep b o h1 h2 e)
      · exact hst.1.at fun o e => (hs.2 I (Ne.symm hDI)).trans e
      · exact hst.2.at fun o e => (hs.2 l (Ne.symm hDl)).trans e
      · have e : merged [] ((pk.take (i + 1)).map fun p => (p.1, p.2.1)) = stored (merged [] ((pk.take i).map fun p => (p.1, p.2.1))) p.1 p.2.1 := by
          rw [List.take_add_one, hp]
          unfold merged
          rw [List.map_append, List.foldl_append]
          rfl
        rw [e]
        exact hD''
      · obtain ⟨a1, a2, a3, ⟨o, ho, r⟩, a5⟩ := hP n p' hp'
        exact ⟨a1, a2, a3, ⟨o, hkeep _ o a3 a2 ho, r⟩, a5⟩
    · refine Nat.le_trans (merged_length_le _ _) (line_of ?_)
      rw [List.length_map, List.length_take]
      simp
      omega
theorem call_dict_pairs {l : Addr} {items : Array Value} {n : Nat} {Q : Value → Shared → Prop} (hl : s.heap.get? l = some { cls := .type "list", data := .seq items n }) (hA : A.handled = none) (pk : List (κ × Value × Addr × Value)) (hlen : pk.length = items.size) (hz : items.size ≤ 1000000)
    (hP : ∀ (n : Nat) (p : κ × Value × Addr × Value), pk[n]? = some p → items[n]? = some (Value.ref p.2.2.1) ∧ IsTup s.heap p.2.2.1 #[p.2.2.2, p.2.1] ∧ knd.is p.1 p.2.2.2 = true)
    (h : ∀ h' tk, h'.DictOf knd s.heap.objs.size (merged [] (pk.map fun p => (p.1, p.2.1))) → (∀ b o, s.heap.get? b = some o → h'.get? b = some o) → Q (.ref s.heap.objs.size) { s with heap := h', toks := tk }) :
    wpAny (model prog w) A (call (.type "dict") [.ref l]) Q E s := by
  refine callType_codes (Q₁ := fun obj s₁ => obj = .ref s.heap.objs.size ∧ s₁ = { s with heap := s.heap.push { cls := .type "dict", data := .dict #[] } }) F.kt_called_dict (F.kt_typeCall_dict_1 _) F.entry_dict_init (kt_code_dict_new _ ⟨rfl, rfl⟩) ?_
  rintro obj s₁ ⟨rfl, rfl⟩
  have hnew : (s.heap.push { cls := .type "dict", data := .dict #[] }).DictOf knd s.heap.objs.size [] := Heap.DictOf.new s.heap
  have hl' : (s.heap.push { cls := .type "dict", data := .dict #[] }).get? l = some { cls := .type "list", data := .seq items n } := Heap.get?_push_of_some _ hl
  have hll : l < s.heap.objs.size := Heap.lt_size hl
  refine ⟨hnew.typeIs, F.args_dict_init_2 _ _, ?_⟩
  unfold Builtin.«dict.__init__»
  refine wpAny_bind ?_
  unfold Builtin.Dict.selfAndRest
  refine wpAny_bind (wpAny_notOrdered_dict hnew.typeIs ?_)
  show wpAny _ _ (pure (s.heap.objs.size, [Value.ref l])) _ _ _
  refine wpAny_pure ?_
  show wpAny _ _ (Builtin.Dict.updateFrom "dict.__init__" s.heap.objs.size (.ref l) [] .none) _ _ _
  unfold Builtin.Dict.updateFrom
  refine wpAny_bind (wpAny_typeOf ⟨_, hl', rfl⟩ ?_)
  rw [if_pos (by decide)]
  refine wpAny_bind (keys_miss hl' (by simpa using hA) fun h1 tk1 hk1 => ?_)
  have hl1 : h1.get? l = some { cls := .type "list", data := .seq items n } := hk1 _ _ hl'
  rw [if_pos (show (none : Option Value).isNone = true from rfl)]
  have hD1 : h1.DictOf knd s.heap.objs.size [] := by
    obtain ⟨o, es, ep, ho, r⟩ := hnew
    exact ⟨o, es, ep, hk1 _ _ ho, r⟩
  have hsz : s.heap.objs.size < h1.objs.size := by
    obtain ⟨o, es, ep, ho, r⟩ := hD1
    exact Heap.lt_size ho
  refine wpAny_bind (wpAny_rule ?_)
  have hL1 : h1.IsList l items := ⟨_, hl1, rfl, n, rfl⟩
  refine wpAny_bind (wpAny_pyIter_list hL1 ?_)
  refine wpAny_pure ⟨plainId_quiet plain_dloop _, ?_⟩
  have kp : ∀ b o, s.heap.get? b = some o → (h1.push { cls := .type "list_iterator", data := .fields #[.ref l, .int 0 0] }).get? b = some o := fun b o e => Heap.get?_push_of_some _ (hk1 _ _ (Heap.get?_push_of_some _ e))
  refine dict_loop (knd := knd) (A := A.in1) (I := h1.objs.size) (D := s.heap.objs.size) (l := l) (items := items) (by simpa using hA) (Nat.ne_of_lt (Nat.lt_trans hll hsz)) (Nat.ne_of_lt hsz) (Nat.ne_of_gt hll) pk hlen hz items.size 0 _ _ (Nat.sub_zero _) (Nat.zero_le _) ⟨_, Heap.get?_push_size _ rfl, rfl, rfl⟩ (hL1.push _) ?_ (fun m p hp => ?_) fun h' tk hD hk => ?_
  · exact hD1.push _
  · obtain ⟨a1, ⟨o, ho, r⟩, a3⟩ := hP m p hp
    have hlt := Heap.lt_size ho
    exact ⟨a1, Nat.ne_of_lt (Nat.lt_trans hlt hsz), Nat.ne_of_lt hlt, ⟨o, kp _ _ ho, r⟩, a3⟩
  · refine ⟨rfl, h h' tk hD fun b o e => ?_⟩
    have hlt := Heap.lt_size e
    exact hk b o (Nat.ne_of_lt hlt) (Nat.ne_of_lt (Nat.lt_trans hlt hsz)) (kp b o e)
end
noncomputable def PrsK (K : PySem.W.Frag) (H : Hp) : List (Key × V) → List V → Prop
  | [], ys => ys = []
  | kv :: r, ys => ∃ t ys', ys = .ref t :: ys' ∧ SqT K H t [kV kv.1, kv.2] ∧ PrsK K H r ys'
theorem PrsK.pk {X : Cx} {pins : List (Addr × Obj)} {σ : St} {H : Hp} {s : Shared} (I : Inv X pins σ H s) : ∀ (kvs : List (Key × V)) (ys : List V) (its : List Value), PrsK X.K H kvs ys → Vals ys its →
    ∃ pk : List (Key × Value × Addr × Value), pk.length = its.length ∧ KV kvs (pk.map fun p => (p.1, p.2.1)) ∧ ∀ (n : Nat) (p : Key × Value × Addr × Value), pk[n]? = some p → its[n]? = some (Value.ref p.2.2.1) ∧ IsTup s.heap p.2.2.1 #[p.2.2.2, p.2.1] ∧ (mixKind X.prog X.w).is p.1 p.2.2.2 = true
  | [], ys, its, h, v => by
    have h' : ys = [] := h
    subst h'
    cases v
    exact ⟨[], rfl, .nil, fun n p hp => by simp at hp⟩
  | kv :: r, ys, its, h, v => by
    obtain ⟨t, ys', rfl, h2, h3⟩ := h
    cases v with
    | cons v1 v2 =>
      obtain ⟨pk, l1, l2, l3⟩ := PrsK.pk I r ys' _ h3 v2
      cases v1
      obtain ⟨its2, rv, ht, _⟩ := I.tuple h2
      obtain ⟨key, val, rfl, a1, a3⟩ := Vals.two rv
      refine ⟨(kv.1, val, t, key) :: pk, by simp [l1], .cons ⟨rfl, a3⟩ l2, fun n p hp => ?_⟩
      cases n with
      | zero =>
        have : p = (kv.1, val, t, key) := (Option.some.inj (by simpa using hp)).symm
        subst this
        exact ⟨rfl, ht, kV_is a1⟩
      | succ n => exact l3 n p (by simpa using hp)
section
variable {X : Cx} {K : PySem.W.Frag}
noncomputable def rDictA (K : PySem.W.Frag) : List V → Hp → VK → Prop := fun xs H Q => ∃ l ys kvs, xs = [V.ref l] ∧ H l = some (.lst ys) ∧ PrsK K H kvs ys ∧ ys.length ≤ 1000000 ∧ kvs.length ≤ 1000000 ∧ ∀ p, H p = none → Q (.ref p) (upd H p (.dK (mergeK [] kvs)))
theorem call_dictA (hr : X.A.handled = none) : CallR X (.type "dict") (rDictA X.K) := by
  intro pins s σ H xs us Q I rv h
  obtain ⟨l, ys, kvs, rfl, hl, hp, hz, hz2, q⟩ := h
  obtain ⟨u, rfl, ru⟩ := rv.one
  cases ru
  obtain ⟨z, its, n, r, hlen, e⟩ := I.lstM hl
  obtain ⟨pk, l1, l2, l3⟩ := PrsK.pk I kvs ys its hp r
  refine call_dict_pairs (knd := mixKind X.prog X.w) e hr pk (by simpa using l1) (by simp; omega) (fun n p hp => ?_) fun h' tk hD hk => ?_
  · obtain ⟨a1, a2, a3⟩ := l3 n p hp
    exact ⟨by simpa using a1, a2, a3⟩
  · refine ⟨.ref s.heap.objs.size, _, I.laid hk (Nat.le_refl _) (dk_new ?_ ?_ (KV.merge l2 .nil) hD), rfl, q _ (I.hok.fresh (Nat.le_refl _))⟩
    · have := length_mergeK kvs []
      exact line_of (by simpa using Nat.le_trans this (by simpa using hz2))
    · exact beq_eq_false_iff_ne.mpr (Nat.ne_of_gt I.big)
theorem call_dictK (hr : X.A.handled = none) (hK : X.K = K := by with_unfolding_all rfl) : CallR X (.type "dict") (rDictA K) := hK ▸ call_dictA hr
end
end L2
set_option Elab.async false
set_option linter.all false
set_option maxRecDepth 100000
set_option maxHeartbeats 4000000
namespace L2
open PySem PySem.Spec PyProof.Rows
noncomputable def tabK (ns : List Str) (as : List Addr) : List (Key × V) := (ns.zip as).map fun p => (Sum.inr p.1, V.ref p.2)
theorem valV_tab : ∀ {ns : List Str} {as : List Addr} {i : Nat} {z : Str} {a : Addr}, ns.Nodup → ns[i]? = some z → as[i]? = some a → valV (tabK ns as) (Sum.inr z : Key) = some (.ref a)
  | [], _, i, _, _, _, h, _ => by simp at h
  | n :: ns, [], i, _, _, _, _, h => by simp at h
  | n :: ns, b :: as, 0, z, a, _, h, g => by
    simp at h g
    subst h g
    exact valV_pos rfl
  | n :: ns, b :: as, i + 1, z, a, hn, h, g => by
    rw [List.nodup_cons] at hn
    have h' : ns[i]? = some z := by simpa using h
    have ne : ¬ (Sum.inr n : Key) = Sum.inr z := by
      intro e
      have e2 : n = z := by injection e
      subst e2
      exact hn.1 (List.mem_of_getElem? h')
    show valV ((Sum.inr n, V.ref b) :: tabK ns as) _ = _
    rw [valV_neg ne]
    exact valV_tab hn.2 h' (by simpa using g)
theorem merge_new : ∀ (kvs acc : List (Key × V)), (kvs.map (·.1)).Nodup → (∀ k ∈ kvs, ∀ q ∈ acc, q.1 ≠ k.1) → mergeK acc kvs = acc ++ kvs
  | [], acc, _, _ => by simp [mergeK]
  | k :: kvs, acc, hn, hd => by
    show mergeK (putK acc k.1 k.2) kvs = _
    have e : putK acc k.1 k.2 = acc ++ [k] := by
      unfold putK
      have : ¬ (acc.any fun kv => decide (kv.1 = k.1)) = true := by
        rw [List.any_eq_true]
        rintro ⟨q, hq, e⟩
        exact hd k List.mem_cons_self q hq (of_decide_eq_true e)
      rw [if_neg this]
    rw [List.map_cons, List.nodup_cons] at hn
    rw [e, merge_new kvs (acc ++ [k]) hn.2 fun x hx q hq => ?_, List.append_assoc]
    · rfl
    · rcases List.mem_append.mp hq with hq | hq
      · exact hd x (List.mem_cons_of_mem _ hx) q hq
      · have : q = k := by simpa using hq
        subst this
        intro e
        exact hn.1 (List.mem_map.mpr ⟨x, hx, e.symm⟩)
section
variable {K : PySem.W.Frag} {H : Hp} {Q : VK} {r : Addr} {ns : List Str} {as : List Addr} {R : Str → Str → Prop}
end
structure HalfW (ns : List Str) (ps : List (Str × Str)) : Prop where
  nd : ns.Nodup
  mem : ∀ p ∈ ps, p.1 ∈ ns ∧ p.2 ∈ ns
  irr : ∀ x, ¬ Way ps x x
  few : ns.length ≤ 100
  le : ps.length ≤ 1000
theorem Half.w {ns : List Str} {ps : List (Str × Str)} (h : Half ns ps) : HalfW ns ps := ⟨h.names.1, fun p hp => h.mem hp, fun _ => h.irrefl, Nat.le_trans h.few (by decide), Nat.le_trans h.le (by decide)⟩
end L2
namespace L2
open PySem PySem.Spec PyProof.Rows
theorem PrsK.fz {K : PySem.W.Frag} {H H' : Hp} (e : Fz H H') : ∀ {kvs : List (Key × V)} {ys : List V}, PrsK K H kvs ys → PrsK K H' kvs ys
  | [], _, h => h
  | kv :: r, ys, ⟨t, ys', h1, h2, h3⟩ => ⟨t, ys', h1, e.seq h2, PrsK.fz e h3⟩
theorem PrsK.snoc {K : PySem.W.Frag} {H : Hp} {kv : Key × V} {t : Addr} (h : SqT K H t [kV kv.1, kv.2]) : ∀ {kvs : List (Key × V)} {ys : List V}, PrsK K H kvs ys → PrsK K H (kvs ++ [kv]) (ys ++ [.ref t])
  | [], ys, g => by
    have g' : ys = [] := g
    subst g'
    exact ⟨t, [], rfl, h, rfl⟩
  | k :: r, ys, ⟨u, ys', h1, h2, h3⟩ => by
    subst h1
    exact ⟨u, ys' ++ [.ref t], rfl, h2, PrsK.snoc h h3⟩
theorem PrsK.length {K : PySem.W.Frag} {H : Hp} : ∀ {kvs : List (Key × V)} {ys : List V}, PrsK K H kvs ys → ys.length = kvs.length
  | [], ys, g => by
    have g' : ys = [] := g
    subst g'
    rfl
  | k :: r, ys, ⟨u, ys', h1, h2, h3⟩ => by
    subst h1
    simp [PrsK.length h3]
theorem i_dict {K : PySem.W.Frag} {H : Hp} {Q : VK} {l : Addr} {ys : List V} {kvs : List (Key × V)} (h : H l = some (.lst ys)) (g : PrsK K H kvs ys) (hz : kvs.length ≤ 1000000) (k : ∀ p H', H p = none → Same H H' → H' p = some (.dK (mergeK [] kvs)) → Q (.ref p) H') : rDictA K [.ref l] H Q :=
  ⟨l, ys, kvs, rfl, h, g, by rw [g.length]; exact hz, hz, fun p hp => k p _ hp (Same.upd hp) upd_same⟩
theorem keys_tab : ∀ {ns : List Str} {as : List Addr}, ns.Nodup → ((tabK ns as).map (·.1)).Nodup
  | [], as, _ => by simp [tabK]
  | n :: ns, [], _ => by simp [tabK]
  | n :: ns, a :: as, h => by
    rw [List.nodup_cons] at h
    show ((Sum.inr n : Key) :: (tabK ns as).map (·.1)).Nodup
    rw [List.nodup_cons]
    refine ⟨fun hm => ?_, keys_tab h.2⟩
    obtain ⟨kv, hkv, e⟩ := List.mem_map.mp hm
    obtain ⟨p, hp, rfl⟩ := List.mem_map.mp hkv
    have e' : p.1 = n := by injection e
    exact h.1 (e' ▸ (List.of_mem_zip hp).1)
theorem tab_snoc {ns : List Str} {as : List Addr} {z : Str} {a : Addr} (h : ns.length = as.length) : tabK (ns ++ [z]) (as ++ [a]) = tabK ns as ++ [(Sum.inr z, V.ref a)] := by
  unfold tabK
  rw [List.zip_append h, List.map_append]
  rfl
end L2
set_option Elab.async false
set_option linter.all false
set_option maxRecDepth 100000
set_option maxHeartbeats 4000000
namespace L2
open PySem PySem.Spec PyProof.Rows
open Classical in
noncomputable def wayB (ps : List (Str × Str)) (x y : Str) : Bool := decide (Way ps x y)
theorem wayB_iff {ps : List (Str × Str)} {x y : Str} : wayB ps x y = true ↔ Way ps x y := by unfold wayB; simp
theorem wayB_of {ps : List (Str × Str)} {x y : Str} {b : Bool} (h : b = true ↔ Way ps x y) : b = wayB ps x y := by
  cases hb : wayB ps x y with
  | true => exact h.mpr (wayB_iff.mp hb)
  | false =>
    cases b with
    | false => rfl
    | true =>
      have := wayB_iff.mpr (h.mp rfl)
      rw [hb] at this
      cases this
theorem wayB_dec {ps : List (Str × Str)} {x y : Str} {p : Prop} [Decidable p] (h : p ↔ Way ps x y) : decide p = wayB ps x y := wayB_of (by rw [decide_eq_true_iff]; exact h)
theorem wayB_false {ps : List (Str × Str)} {x y : Str} (h : ¬ Way ps x y) : wayB ps x y = false := by
  cases hb : wayB ps x y with
  | false => rfl
  | true => exact absurd (wayB_iff.mp hb) h
theorem iteR {α : Type} {a : α} {A B : Prop} [Decidable (a = a)] (h : A) : if decide (a = a) = true then A else B := by rw [if_pos (by simp)]; exact h
theorem iteNR {α : Type} {a : α} {A B : Prop} [Decidable (a = a)] (h : B) : if (!decide (a = a)) = true then A else B := by rw [if_neg (by simp)]; exact h
section
variable {K : PySem.W.Frag} {H : Hp} {σ : St} {x : V} {Q : VK}
theorem comp_nm {ns : List Str} {g : TG} {tt : TT} {te : TE} {k : Nat} {js : List Nat} (h : Is K H (nmD ns) x) (t : Str → Bool) (f : Str → PyData) (hf : ∀ a, frz (f a) = true) (hz : ns.length ≤ 1000000)
    (hs : ∀ (i : Nat) a H1 (R : VK) (R' : Hp → Prop), ns[i]? = some a → Same H H1 → (t a = true → ∀ y H2, Same H1 H2 → Is K H2 (f a) y → R y H2) → (t a = false → ∀ H2, Same H1 H2 → R' H2) →
      g (.str a) (List.replicate k none ++ pick σ js) H1 fun σ2 H2 => tt σ2 H2 fun b H3 => if b = true then te σ2 H3 R else R' H3)
    (hd : ∀ p ys H', H p = none → Same H H' → H' p = some (.lst ys) → IsL K H' ((ns.filter t).map f) ys → Q (.ref p) H') : rAnyIt K x H fun J H1 => rComp k js g tt te σ J H1 Q := by
  obtain ⟨a, rfl, hS⟩ := h.nm
  refine i_itT hS (comp_dat (K := K) (walk_tup (xs := ns.map V.str)) ns (by simp) t f hf (by simpa using hz) (fun H' e => e.seqT hS) (fun i z v H1 R R' hz hv e hR hR' => ?_) hd)
  rw [List.getElem?_map, hz] at hv
  cases hv
  exact hs i z H1 R R' hz e hR hR'
theorem comp_lnm {ns : List Str} {a : Addr} {g : TG} {tt : TT} {te : TE} {k : Nat} {js : List Nat} (h : SqL K H a (ns.map V.str)) (t : Str → Bool) (f : Str → PyData) (hf : ∀ a, frz (f a) = true) (hz : ns.length ≤ 1000000)
    (hs : ∀ (i : Nat) a H1 (R : VK) (R' : Hp → Prop), ns[i]? = some a → Same H H1 → (t a = true → ∀ y H2, Same H1 H2 → Is K H2 (f a) y → R y H2) → (t a = false → ∀ H2, Same H1 H2 → R' H2) →
      g (.str a) (List.replicate k none ++ pick σ js) H1 fun σ2 H2 => tt σ2 H2 fun b H3 => if b = true then te σ2 H3 R else R' H3)
    (hd : ∀ p ys H', H p = none → Same H H' → H' p = some (.lst ys) → IsL K H' ((ns.filter t).map f) ys → Q (.ref p) H') : rAnyIt K (.ref a) H fun J H1 => rComp k js g tt te σ J H1 Q := by
  refine i_itL h (comp_dat (K := K) (walk_list (xs := ns.map V.str)) ns (by simp) t f hf (by simpa using hz) (fun H' e => e.seq h) (fun i z v H1 R R' hz hv e hR hR' => ?_) hd)
  rw [List.getElem?_map, hz] at hv
  cases hv
  exact hs i z H1 R R' hz e hR hR'
end
end L2
set_option Elab.async false
set_option linter.all false
set_option maxRecDepth 100000
set_option maxHeartbeats 4000000
namespace L2
open PySem PySem.Spec PyProof.Rows
open AutoSeq1 (wpAny_loadPart')
section
variable {prog : Program} {w : World} {A : Around} {E : Value → Shared → Prop} {s : Shared}
end
theorem Inv.turnedL {X : Cx} {pins : List (Addr × Obj)} {σ : St} {H : Hp} {s : Shared} {h' : Heap} {t' : Nat} {ch : List Addr} (I : Inv X pins σ H s) (k : ∀ b o, b ∉ ch → s.heap.get? b = some o → h'.get? b = some o) (hf : ∀ b ∈ ch, FpOk X pins H b) : Inv X pins σ H { s with heap := h', toks := t' } := by
  have nit : ∀ b u, H b = some u → b ∉ ch := fun b u e z => by rw [(hf b z).1] at e; cases e
  refine I.step (g' := s.gens) (d' := s.drawn) (ch := ch) (fun b hb => ?_) (fun b o _ _ hc e _ => k b o hc e) (fun b o _ _ hc e _ => ⟨o.slots, k b o hc e⟩) (fun _ _ _ _ n => n)
    (fun b o hc e => ⟨o, k b o hc e⟩) (fun _ _ e => e) (fun _ _ _ e => e) (fun b ps e => ⟨#[], by rw [e]; simp⟩) (fun m hm => ?_) (fun b u e => ?_) I.bare
  · obtain ⟨_, h2, _, h4, h5, h6⟩ := hf b hb
    exact ⟨h4, h2, h5, h6⟩
  · obtain ⟨o, es, ep, ho, r⟩ := hm
    exact ⟨o, es, ep, k _ o (fun z => (hf _ z).2.1 rfl) ho, r⟩
  · refine (I.hok b u e).stay (fun c v hc q => k c v ?_ q) (fun _ q => q) fun _ _ q => q
    rcases hc with z | z
    · rw [z]; exact nit b u e
    · exact nit c _ z
section
variable {X : Cx} {K : PySem.W.Frag}
theorem boot_enumerate : bootBuiltins "enumerate" = some (.type "enumerate") := PyProof.Rows.Boot.«enumerate»
end
section
variable {K : PySem.W.Frag} {σ : St} {H : Hp}
end
end L2
set_option Elab.async false
set_option linter.all false
set_option maxRecDepth 100000
set_option maxHeartbeats 4000000
namespace L2
open PySem PySem.Spec PyProof.Rows
section
variable {X : Cx} {K : PySem.W.Frag}
section
variable {H : Hp} {Q : VK} {lo hi : Option Int}
theorem i_addT {a b : Addr} {xs ys : List V} (h1 : SqT K H a xs) (h2 : SqT K H b ys) (h : xs.length + ys.length ≤ sizeLine) (k : ∀ p H', Same H H' → SqT K H' p (xs ++ ys) → Q (.ref p) H') : rAddA K (.ref a) (.ref b) H Q := by
  by_cases hx : xs = []
  · subst hx
    exact .inr (.inr (.inr (.inr ⟨a, b, ys, rfl, rfl, h1, h2, k b H (Same.refl _) h2⟩)))
  · refine .inr (.inr (.inr (.inl ⟨a, b, xs, ys, rfl, rfl, h1, h2, hx, h, fun e => ?_, fun _ p hp => k p _ (Same.upd hp) (SqT.of upd_same)⟩)))
    subst e
    exact k a H (Same.refl _) (by rw [List.append_nil]; exact h1)
theorem i_slT {a : Addr} {xs : List V} (h : SqT K H a xs) (k : ∀ p H', Same H H' → SqT K H' p (cutV xs lo hi) → Q (.ref p) H') : rSlA K (.ref a) lo hi H Q := by
  by_cases hw : HT.sIx xs.length 0 lo = 0 ∧ HT.sIx xs.length xs.length hi = xs.length
  · refine .inr (.inr (.inr ⟨a, xs, rfl, h, hw, k a H (Same.refl _) ?_⟩))
    have e : cutV xs lo hi = xs := by
      unfold cutV
      rw [hw.1, hw.2, List.drop_zero, Nat.sub_zero, List.take_length]
    rw [e]
    exact h
  · exact .inr (.inl ⟨a, xs, rfl, h, hw, fun p hp => k p _ (Same.upd hp) (SqT.of upd_same)⟩)
end
end
end L2
set_option Elab.async false
set_option linter.all false
set_option maxRecDepth 100000
set_option maxHeartbeats 4000000
namespace L2
open PySem PySem.Spec PyProof.Rows
section
variable {K : PySem.W.Frag} {σ : St} {H : Hp} {Q : VK} {td ty : TE}
theorem i_chain {r r' : R2} {ta tb tc : TE} (k : ta σ H fun x H1 => tb σ H1 fun y H2 => r x y H2 fun z H3 => ∃ k, z = .bl k ∧ (if k = true then tc σ H3 fun w' H4 => r' y w' H4 Q else Q (.bl false) H3)) : tChain r r' ta tb tc σ H Q := k
theorem i_andV {ta tb : TE} (k : ta σ H fun x H1 => ∃ c, x = .bl c ∧ if c = true then tb σ H1 Q else Q (.bl false) H1) : tAndV ta tb σ H Q := k
theorem i_orV {ta tb : TE} (k : ta σ H fun x H1 => ∃ c, x = .bl c ∧ if c = true then Q (.bl true) H1 else tb σ H1 Q) : tOrV ta tb σ H Q := k
theorem i_ninBF {a : Addr} {bs : List Bool} (h : SqL K H a (bs.map V.bl)) (k : Q (.bl (bs.all id)) H) : rInA K true (.bl false) (.ref a) H Q := .inl ⟨a, _, rfl, .inl h, rfl, by
    rw [List.all_eq_true]
    intro v h
    obtain ⟨n, _, rfl⟩ := List.mem_map.mp h
    rfl, by
    have e : (!inV (.bl false) (bs.map V.bl)) = bs.all id := by
      clear h k
      unfold inV
      induction bs with
      | nil => rfl
      | cons b bs ih =>
        rw [List.map_cons, List.any_cons, List.all_cons, Bool.not_or, ih]
        cases b <;> rfl
    show Q (.bl (!inV (.bl false) (bs.map V.bl))) H
    rw [e]
    exact k⟩
theorem i_inBF {a : Addr} {bs : List Bool} (h : SqL K H a (bs.map V.bl)) (k : Q (.bl (!bs.all id)) H) : rInA K false (.bl false) (.ref a) H Q := .inl ⟨a, _, rfl, .inl h, rfl, by
    rw [List.all_eq_true]
    intro v h
    obtain ⟨n, _, rfl⟩ := List.mem_map.mp h
    rfl, by
    have e : inV (.bl false) (bs.map V.bl) = !bs.all id := by
      clear h k
      unfold inV
      induction bs with
      | nil => rfl
      | cons b bs ih =>
        rw [List.map_cons, List.any_cons, List.all_cons, ih]
        cases b <;> simp [eqV]
    show Q (.bl (inV (.bl false) (bs.map V.bl))) H
    rw [e]
    exact k⟩
end
end L2
set_option Elab.async false
set_option linter.all false
set_option maxRecDepth 100000
set_option maxHeartbeats 4000000
namespace L2
open PySem PySem.Spec PyProof.Rows
structure TabL (K : PySem.W.Frag) (H : Hp) (r : Addr) (ns : List Str) (as : List Addr) (R : Str → Str → Prop) : Prop where
  len : as.length = ns.length
  top : H r = some (.dK (tabK ns as))
  row : ∀ (i : Nat) (z : Str) (a : Addr), ns[i]? = some z → as[i]? = some a → ∃ ks : List Str, H a = some (.lst (ks.map V.str)) ∧ ks.Nodup ∧ ∀ y, y ∈ ks ↔ R z y
theorem TabL.same {K : PySem.W.Frag} {H H' : Hp} {r : Addr} {ns : List Str} {as : List Addr} {R : Str → Str → Prop} (h : TabL K H r ns as R) (e : Same H H') : TabL K H' r ns as R :=
  ⟨h.len, e _ _ h.top, fun i z a hz ha => let ⟨ks, h1, h2⟩ := h.row i z a hz ha; ⟨ks, e _ _ h1, h2⟩⟩
theorem TabL.at {K : PySem.W.Frag} {H : Hp} {r : Addr} {ns : List Str} {as : List Addr} {R : Str → Str → Prop} (h : TabL K H r ns as R) {x : Str} (hx : x ∈ ns) : ∃ (i : Nat) (a : Addr), ns[i]? = some x ∧ as[i]? = some a := by
  obtain ⟨i, hi, e⟩ := List.getElem_of_mem hx
  have hi' : i < as.length := by rw [h.len]; exact hi
  exact ⟨i, as[i], by rw [List.getElem?_eq_getElem hi, e], List.getElem?_eq_getElem hi'⟩
section
variable {K : PySem.W.Frag} {σ : St} {H : Hp} {Q : VK} {r : Addr} {ns : List Str} {as : List Addr} {R : Str → Str → Prop}
theorem i_tabL {x : Str} {i : Nat} {a : Addr} (h : TabL K H r ns as R) (hn : ns.Nodup) (hx : ns[i]? = some x) (ha : as[i]? = some a) (k : Q (.ref a) H) : rIxA K (.ref r) (.str x) H Q := i_ixD h.top (valV_tab hn hx ha) k
end
section
variable {K : PySem.W.Frag} {H : Hp} {σ : St}
end
end L2
set_option Elab.async false
set_option linter.all false
set_option maxRecDepth 100000
set_option maxHeartbeats 4000000
namespace L2
open PySem PySem.Spec PyProof.Rows
end L2
set_option Elab.async false
set_option linter.all false
set_option maxRecDepth 100000
set_option maxHeartbeats 4000000
namespace L2
open PySem PySem.Spec PyProof.Rows
section
variable {prog : Program} {w : World} {A : Around} {E : Value → Shared → Prop} {s : Shared}
end
section
variable {X : Cx} {K : PySem.W.Frag}
end
section
variable {K : PySem.W.Frag} {σ : St} {H : Hp}
end
end L2
set_option Elab.async false
set_option linter.all false
set_option maxRecDepth 100000
set_option maxHeartbeats 4000000
namespace L2
open PySem PySem.Spec PyProof.Rows
noncomputable def lsD (Ls : List (List Str)) : PyData := .tuple (Ls.map nmD)
section
variable {K : PySem.W.Frag} {H : Hp} {Q : VK}
theorem i_tupLs {Ls : List (List Str)} {a : Addr} {ys : List V} (h : H a = some (.lst ys)) (g : IsL K H (Ls.map nmD) ys) (k : ∀ v H', Same H H' → Is K H' (lsD Ls) v → Q v H') : rTupleA K [.ref a] H Q :=
  i_tupleL (SqL.of h) fun p H' hp e h' => k _ H' e (Is.of_tup (SqT.of h') (IsL.mono e _ _ g))
end
theorem IsL.bl_eq {α : Type} {K : PySem.W.Frag} {H : Hp} {f : α → Bool} : ∀ {as : List α} {vs : List V}, IsL K H (as.map fun a => PyData.bool (f a)) vs → vs = (as.map f).map V.bl
  | [], vs, h => by simp only [List.map_nil, IsL] at h; exact h
  | n :: ns, vs, h => by
    simp only [List.map_cons, IsL, Is] at h
    obtain ⟨v, r, rfl, rfl, e3⟩ := h
    rw [IsL.bl_eq e3]
    rfl
theorem comp_bls {α : Type} {K : PySem.W.Frag} {H : Hp} {σ : St} {J : It} {xs : List V} {G : Hp → Prop} {g : TG} {te : TE} {Q : VK} {k : Nat} {js : List Nat} (hw : WalkOf J xs G) (as : List α) (hl : as.length = xs.length) (f : α → Bool) (hz : xs.length ≤ 1000000) (hG : ∀ H', Same H H' → G H')
    (hs : ∀ (i : Nat) a v H1 (R : VK), as[i]? = some a → xs[i]? = some v → Same H H1 → (∀ H2, Same H1 H2 → R (.bl (f a)) H2) → g v (List.replicate k none ++ pick σ js) H1 fun σ2 H2 => te σ2 H2 R)
    (hd : ∀ p H', H p = none → Same H H' → SqL K H' p ((as.map f).map V.bl) → Q (.ref p) H') : rComp k js g tTrue te σ J H Q := by
  refine comp_dat (K := K) hw as hl (fun _ => true) (fun a => PyData.bool (f a)) (fun _ => rfl) hz hG (fun i a v H1 R R' ha hv e hR hR' => ?_) (fun p ys H' hp e h hL => ?_)
  · exact hs i a v H1 R ha hv e fun H2 e2 => hR rfl _ H2 e2 is_bl
  · rw [filter_true] at hL
    have := IsL.bl_eq hL
    subst this
    exact hd p H' hp e (SqL.of h)
end L2
set_option Elab.async false
set_option linter.all false
set_option maxRecDepth 100000
set_option maxHeartbeats 4000000
namespace L2
open PySem PySem.Spec PyProof.Rows
section
variable {P : Program} {w : World} {κ : Type} [DecidableEq κ] {knd : KeyKind P w κ} {A : Around} {E : Value → Shared → Prop} {s : Shared}
end
section
variable {X : Cx} {pins : List (Addr × Obj)} {σ : St} {H : Hp} {s : Shared} {A : Around}
end
end L2
set_option Elab.async false
set_option linter.all false
set_option maxRecDepth 100000
set_option maxHeartbeats 4000000
namespace L2
open PySem PySem.Spec PyProof.Rows
section
variable {prog : Program} {w : World} {A : Around} {E : Value → Shared → Prop} {s : Shared}
end
section
variable {X : Cx} {K : PySem.W.Frag}
end
end L2
set_option Elab.async false
set_option linter.all false
set_option maxRecDepth 100000
set_option maxHeartbeats 4000000
namespace L2
open PySem PySem.Spec PyProof.Rows
end L2
set_option Elab.async false
set_option linter.all false
set_option maxRecDepth 100000
set_option maxHeartbeats 4000000
namespace L2
open PySem PySem.Spec PyProof.Rows
section
variable {P : Program} {w : World} {A : Around} {R : Result → Shared → Prop} {it : Addr} {fp wr : List Addr} {G : Array GenState → Array GenState → Prop} {n : Nat} {PV : Nat → Value → Prop} {St : Nat → Shared → Prop}
end
section
variable {prog : Program} {w : World} {A : Around} {E : Value → Shared → Prop} {s : Shared}
set_option maxHeartbeats 3200000 in
end
end L2
set_option Elab.async false
set_option linter.all false
set_option maxRecDepth 100000
set_option maxHeartbeats 4000000
namespace L2
open PySem PySem.Spec PyProof.Rows
section
variable {X : Cx} {K : PySem.W.Frag}
end
theorem txt_join (y : Str) (ws : List Str) : Txt.join y ws = Str.join y ws := StrLaws.glued_eq_join y ws
end L2
set_option Elab.async false
set_option linter.all false
set_option maxRecDepth 100000
set_option maxHeartbeats 4000000
namespace L2
open PySem PySem.Spec PyProof.Rows
theorem ok_app {a b : Str} (h1 : PyData.strOk a = true) (h2 : PyData.strOk b = true) : PyData.strOk (a ++ b) = true := by
  unfold PyData.strOk at h1 h2 ⊢
  show (a.cps ++ b.cps).all _ = true
  rw [← Array.all_toList, List.all_eq_true] at h1 h2 ⊢
  intro c hc
  rw [Array.toList_append] at hc
  rcases List.mem_append.mp hc with hc | hc
  · exact h1 c hc
  · exact h2 c hc
theorem nm_len {z : Str} (h : isNm z = true) : z.length ≤ 8 := (nm_ok h).2
section
variable {K : PySem.W.Frag} {H : Hp} {Q : VK}
end
end L2
set_option Elab.async false
set_option linter.all false
set_option maxRecDepth 100000
set_option maxHeartbeats 4000000
namespace L2
open PySem PySem.Spec PyProof.Rows
section
variable {X : Cx} {K : PySem.W.Frag}
end
section
variable {prog : Program} {w : World} {A : Around} {E : Value → Shared → Prop} {s : Shared}
theorem index_tup {t : Addr} {items : Array Value} {x : Value} {e : Value → Bool} {j : Nat} {Q : Value → Shared → Prop} (ht : IsTup s.heap t items) (hj : j < items.size) (he : ∀ y, y ∈ items → SeqAt.EqAt A.in1 s y x (e y)) (hit : e items[j] = true)
    (hno : ∀ m (hm : m < items.size), m < j → e items[m] = false) (h : Q (.int j s.toks) { s with toks := s.toks + 1 }) : wpAny (model prog w) A (call (.builtin "tuple.index") [.ref t, x]) Q E s := by
  refine wpAny_call_entry PySem.F.slot_tuple_index ht.typeIs PySem.F.entry_tuple_index ?_ (PySem.F.args_tuple_index_2 _ _)
  unfold Builtin.«tuple.index»
  refine wpAny_bind (wpAny_of_eq (a := (Value.ref t, [x])) (by first | rfl | kernel_rfl) ?_)
  refine wpAny_bind (m := Builtin.Tuple.tupleItemsOf _) (tupleItemsOf_ ht ?_)
  refine wpAny_bind (m := pure 0) (wpAny_pure ?_)
  refine wpAny_bind (m := pure items.size) (wpAny_pure ?_)
  dsimp only
  rw [Nat.min_self]
  refine wpAny_bind ?_
  rw [Std.Legacy.Range.forIn_eq_forIn_range', show Std.Legacy.Range.size [:items.size] = items.size by simp [Std.Legacy.Range.size]]
  refine wpAny_forIn_list _ (fun l q s' => s' = s ∧ q = (none, ()) ∧ ∃ i, i ≤ j ∧ l = List.range' i (items.size - i)) _ ?_ ?_ _ _ ⟨rfl, rfl, 0, Nat.zero_le _, rfl⟩
  · rintro m l q s' ⟨rfl, rfl, i, hi, el⟩
    rw [show items.size - i = items.size - (i + 1) + 1 by omega, List.range'_succ] at el
    injection el with e1 e2
    subst e1
    have hm : m < items.size := by omega
    rw [Array.getElem?_eq_getElem hm]
    refine wpAny_bind (he _ (Array.getElem_mem hm) prog w _ _ ?_)
    by_cases hmj : m = j
    · subst hmj
      rw [hit, if_pos rfl]
      refine wpAny_bind (m := retInt _) ?_
      refine wpAny_bind (wpAny_mkInt ?_)
      exact wpAny_pure (wpAny_pure (wpAny_pure ⟨_, rfl, h⟩))
    · rw [hno m hm (by omega), if_neg (by decide)]
      exact wpAny_pure ⟨rfl, rfl, m + 1, by omega, e2⟩
  · rintro q s' ⟨rfl, rfl, i, hi, el⟩
    exfalso
    rw [show items.size - i = items.size - (i + 1) + 1 by omega, List.range'_succ] at el
    cases el
end
section
variable {X : Cx} {K : PySem.W.Frag}
noncomputable def rIndexT (K : PySem.W.Frag) : V → List V → Hp → VK → Prop := fun x vs H Q => ∃ (a : Addr) (ns : List Str) (z : Str) (j : Nat), x = .ref a ∧ vs = [.str z] ∧ SqT K H a (ns.map V.str) ∧ ns[j]? = some z ∧ (∀ m < j, ns[m]? ≠ some z) ∧ Q (.int (j : Nat)) H
theorem mt_indexT : MtR X "tuple.index" (rIndexT X.K) := by
  intro pins s σ H x vs v us Q I rx rv h
  obtain ⟨a, ns, z, j, rfl, rfl, hS, hj, hno, q⟩ := h
  cases rx
  obtain ⟨u, rfl, ru⟩ := rv.one
  obtain ⟨its, r, p, hz⟩ := I.tuple hS
  have hlen := r.length
  rw [List.length_map] at hlen
  have hjn := (List.getElem?_eq_some_iff.mp hj).1
  have at' : ∀ m (hm : m < its.toArray.size), ∃ y t, ns[m]? = some y ∧ its.toArray[m] = .str y t := fun m hm => by
    have hm' : m < ns.length := by rw [List.size_toArray] at hm; omega
    obtain ⟨w, hw, rw'⟩ := r.get (i := m) (x := .str ns[m]) (by rw [List.getElem?_map, List.getElem?_eq_getElem hm']; rfl)
    obtain ⟨t, rfl⟩ := rw'
    refine ⟨ns[m], t, List.getElem?_eq_getElem hm', ?_⟩
    have h2 := (List.getElem?_eq_some_iff.mp hw).2
    simpa using h2
  have tell : ∀ y t, eqU (.str z) (.str y t) = decide (y = z) := fun y t => by
    show (y == z) = _
    by_cases h : y = z <;> simp [h]
  refine index_tup (j := j) (e := eqU (.str z)) p (by rw [List.size_toArray]; omega) (fun w hw => mem_eqAt ru rfl r (flat_strs ns) w (by simpa using hw)) ?_ (fun m hm hmj => ?_) ⟨.int _, H, I.tok _, ⟨_, rfl⟩, q⟩
  · obtain ⟨y, t, h1, h2⟩ := at' j (by rw [List.size_toArray]; omega)
    rw [h2, tell]
    rw [hj] at h1
    exact decide_eq_true (Option.some.inj h1).symm
  · obtain ⟨y, t, h1, h2⟩ := at' m hm
    rw [h2, tell]
    refine decide_eq_false fun e => hno m hmj ?_
    rw [h1, e]
theorem mt_indexTK (hK : X.K = K := by with_unfolding_all rfl) : MtR X "tuple.index" (rIndexT K) := hK ▸ mt_indexT
theorem i_indexT {a : Addr} {ns : List Str} {z : Str} {j : Nat} {H : Hp} {Q : VK} (h : SqT K H a (ns.map V.str)) (hj : ns[j]? = some z) (hno : ∀ m < j, ns[m]? ≠ some z) (k : Q (.int (j : Nat)) H) : rIndexT K (.ref a) [.str z] H Q := ⟨a, ns, z, j, rfl, rfl, h, hj, hno, k⟩
noncomputable def tBMT (K : PySem.W.Frag) (r : V → List V → Hp → VK → Prop) (to : TE) (t : TA) : TE := fun σ H Q => to σ H fun x H1 => (∃ a xs, x = .ref a ∧ SqT K H1 a xs) ∧ t σ H1 fun vs H2 => r x vs H2 Q
theorem pe_bmT {o e : Expr} {es : List Expr} {to : TE} {t : TA} {name : Str} {apos cpos : Pos} {id : String} {r : V → List V → Hp → VK → Prop} (slot : Slot "tuple" name id) (hty : typeOf (.builtin id) = pure (.type "method_descriptor")) (hm : MtR X id r) (ho : PE X o to) (ha : PA X (e :: es) t) (hK : X.K = K := by with_unfolding_all rfl)
    (hbase : attributeBase o name X.env (eval o X.env) = eval o X.env := by with_unfolding_all rfl)
    (hfew : ((backTo cpos (starEach (e :: es) X.env)).all (fun x => !x.1) && (backToKw cpos (keywordEach [] X.env)).all (fun x => x.1.isSome) && decide ((e :: es).length + ([] : List Keyword).length + (if ([] : List Keyword).isEmpty then 0 else 1) < 30)) = true := by with_unfolding_all rfl)
    (hline : (apos.endLine == cpos.line) = true := by with_unfolding_all rfl) (hs : starEach (e :: es) X.env = (false, eval e X.env) :: starEach es X.env := by with_unfolding_all rfl) (hplain : (backTo cpos (starEach es X.env)).any (·.1) = false := by with_unfolding_all rfl) :
    PE X (.Call (.Attribute o name apos) (e :: es) [] cpos) (tBMT K r to t) := by
  subst hK
  intro pins s σ H Q I h
  refine wpAny_Call_method_late hbase hfew hline rfl (thn (ho pins s σ H _ I h) fun v s1 ⟨x, H1, I1, r1, ty, q1⟩ => ?_)
  obtain ⟨a, xs, rfl, hS⟩ := ty
  cases r1
  obtain ⟨its, _, p, _⟩ := I1.tuple hS
  refine ⟨"tuple", id, PySem.F.plainAttrs_tuple, slot, hty, p.typeIs, (fun b e => by cases e; exact I1.tupleN hS), ?_⟩
  have hA := ha cpos pins s1 σ H1 _ I1 q1
  rw [hs] at hA ⊢
  refine Calls.callWith_builtin (by show (false || (backTo cpos (starEach es X.env)).any (·.1)) = false; rw [hplain]; rfl) (Calls.evalArgs_plain ?_)
  exact thn hA fun us s2 ⟨vs, H2, I2, r2, q2⟩ => hm pins s2 σ H2 (.ref a) vs _ us Q I2 rfl r2 q2
theorem i_bmT {r : V → List V → Hp → VK → Prop} {te : TE} {ts : TA} {σ : St} {H : Hp} {Q : VK} (k : te σ H fun x H1 => (∃ a xs, x = .ref a ∧ SqT K H1 a xs) ∧ ts σ H1 fun xs H2 => r x xs H2 Q) : tBMT K r te ts σ H Q := k
theorem i_tyT {a : Addr} {xs : List V} {H : Hp} {B : Prop} (h : SqT K H a xs) (k : B) : (∃ a' xs', V.ref a = .ref a' ∧ SqT K H a' xs') ∧ B := ⟨⟨a, xs, rfl, h⟩, k⟩
end
end L2
set_option Elab.async false
set_option linter.all false
set_option maxRecDepth 100000
set_option maxHeartbeats 4000000
namespace L2
open PySem PySem.Spec PyProof.Rows
section
variable {prog : Program} {w : World} {A : Around} {E : Value → Shared → Prop} {s : Shared}
theorem sort_strs {t : Addr} {vs : List Value} {ss : List Str} {T : String} {n : Nat} {o : Obj} {Q : Value → Shared → Prop} (hT : T = "list" ∨ T = "tuple") (ho : s.heap.get? t = some o) (hc : o.cls = .type T) (hd : o.data = .seq vs.toArray n) (hS : StrsAre vs ss) (h64 : vs.length < 64)
    (h : ∀ (h1 h' : Heap) (out : List Value) (e : Nat) (ss' : List Str), (∀ b ob, s.heap.get? b = some ob → h1.get? b = some ob) → (∀ b ob, h1.get? b = some ob → h'.get? b = some ob) → h'.get? h1.objs.size = some (seqObj "list" out.toArray e) → StrsAre out ss' → ss'.Perm ss → sortedS ss' = true → Q (.ref h1.objs.size) { s with heap := h' }) :
    wpAny (model prog w) A (call (.builtin "sorted") [.ref t]) Q E s := by
  refine Calls.call_function_entry kind_sorted plain_sorted entry_sorted (args_sorted1 _) ?_
  unfold Builtin.«sorted»
  refine wpAny_bind (m := checkCount "sorted" 1 1 _) (wpAny_pure ?_)
  refine wpAny_bind (wpAny_collect_seq t hT ho hc hd (fun h1 k1 => ?_) (by rw [List.size_toArray, sizeLine_eq]; omega))
  refine wpAny_bind (wpAny_newList ?_ (by simp only [List.size_toArray]; rw [sizeLine_eq]; omega))
  have hnew : (h1.push (seqObj "list" vs.toArray 0)).get? h1.objs.size = some (seqObj "list" vs.toArray 0) := Heap.get?_push_size _ rfl
  show wpAny _ _ _ _ _ { s with heap := h1.push (seqObj "list" vs.toArray 0) }
  refine wpAny_bind (wpAny_holding (wpAny_call_entry slot_list_sort ⟨_, hnew, rfl⟩ entry_list_sort (list_sort_treeK strKind_oneLt hnew hS.keysOf (fun v₁ v₂ r e => keyKind_strs (by rw [← e]; exact hS)) h64 fun st' hp hs => ⟨_, rfl, ?_⟩) (args_list_sort _)))
  obtain ⟨ss', q1, q2, q3⟩ := sorted_out_str hS hp hs
  obtain ⟨e, he⟩ := sortedHeap_at (out := (arrOf st').map (·.2)) hnew
  refine wpAny_pure ⟨_, rfl, h h1 _ ((arrOf st').map (·.2)).toList e ss' k1 (fun b ob hb => ?_) (by rw [Array.toArray_toList]; exact he) q1 q2 q3⟩
  have hlt := Heap.lt_size hb
  rw [sortedHeap_old (Nat.ne_of_lt hlt) (by rw [size_push']; exact Nat.lt_succ_of_lt hlt)]
  exact Heap.get?_push_of_some _ hb
end
theorem strs_vals : ∀ {us : List Value} {ys : List Str}, StrsAre us ys → Vals (ys.map V.str) us
  | _, _, .nil => .nil
  | _, _, .cons y t h => .cons ⟨t, rfl⟩ (strs_vals h)
section
variable {X : Cx} {K : PySem.W.Frag}
noncomputable def rSorted (K : PySem.W.Frag) : List V → Hp → VK → Prop := fun xs H Q => ∃ (a : Addr) (ns : List Str), xs = [.ref a] ∧ (SqL K H a (ns.map V.str) ∨ SqT K H a (ns.map V.str)) ∧ ns.length < 64 ∧ ∀ p (ms : List Str), H p = none → ms.Perm ns → sortedS ms = true → Q (.ref p) (upd H p (.lst (ms.map V.str)))
theorem call_sortedS : CallR X (.builtin "sorted") (rSorted X.K) := by
  intro pins s σ H xs us Q I r h
  obtain ⟨a, ns, rfl, hl, hz, q⟩ := h
  obtain ⟨u, rfl, ru⟩ := vals1 r
  cases ru
  have fin : ∀ (vs : List Value), Vals (ns.map V.str) vs → ∀ (h1 h' : Heap) (out : List Value) (e : Nat) (ss' : List Str), (∀ b ob, s.heap.get? b = some ob → h1.get? b = some ob) → (∀ b ob, h1.get? b = some ob → h'.get? b = some ob) → h'.get? h1.objs.size = some (seqObj "list" out.toArray e) → StrsAre out ss' → ss'.Perm ns → sortedS ss' = true → EP X pins σ Q (.ref h1.objs.size) { s with heap := h' } := fun vs rv h1 h' out e ss' k1 k2 he q1 q2 q3 => by
    have I1 : Inv X pins σ H { s with heap := h1 } := I.kept (t' := s.toks) k1
    exact ⟨.ref _, _, I1.laid (t' := s.toks) (o := .lst (ss'.map V.str)) k2 (Nat.le_refl _) ⟨by rw [List.length_map, q2.length_eq, sizeLine_eq]; omega, out, e, strs_vals q1, he⟩, rfl, q _ ss' (I1.hok.fresh (Nat.le_refl _)) q2 q3⟩
  rcases hl with hl | hl
  · obtain ⟨its, rv, ⟨o, n, h1, h2, _, h3⟩, _⟩ := I.list hl
    have hlen := rv.length
    rw [List.length_map] at hlen
    exact sort_strs (.inl rfl) h1 h2 h3 (strs_of rv) (by omega) (fin its rv)
  · obtain ⟨its, rv, ⟨o, h1, h2, n, h3⟩, _⟩ := I.tuple hl
    have hlen := rv.length
    rw [List.length_map] at hlen
    exact sort_strs (.inr rfl) h1 h2 h3 (strs_of rv) (by omega) (fin its rv)
theorem call_sortedK (hK : X.K = K := by with_unfolding_all rfl) : CallR X (.builtin "sorted") (rSorted K) := hK ▸ call_sortedS
theorem i_sorted {a : Addr} {ns : List Str} {H : Hp} {Q : VK} (h : SqL K H a (ns.map V.str) ∨ SqT K H a (ns.map V.str)) (hz : ns.length < 64) (k : ∀ p (ms : List Str) H', H p = none → Same H H' → H' p = some (.lst (ms.map V.str)) → ms.Perm ns → sortedS ms = true → Q (.ref p) H') : rSorted K [.ref a] H Q :=
  ⟨a, ns, rfl, h, hz, fun p ms hp h1 h2 => k p ms _ hp (Same.upd hp) upd_same h1 h2⟩
end
theorem rising_le : ∀ (p : Str) (l : List Str), risingS p l = true → ∀ y ∈ l, ¬ y.cps.toList < p.cps.toList
  | p, [], _, y, h => nomatch h
  | p, x :: r, h, y, hy => by
    have h' : (!ltCps x.cps.toList p.cps.toList && risingS x r) = true := h
    rw [Bool.and_eq_true, Bool.not_eq_true', ltCps_eq, decide_eq_false_iff_not] at h'
    rcases List.mem_cons.mp hy with rfl | hy
    · exact h'.1
    · have ih := rising_le x r h'.2 y hy
      exact List.not_lt.mpr (List.le_trans (List.not_lt.mp h'.1) (List.not_lt.mp ih))
theorem rising_tail {x : Str} {r : List Str} (h : sortedS (x :: r) = true) : sortedS r = true := by
  cases r with
  | nil => rfl
  | cons y r =>
    have h' : (!ltCps y.cps.toList x.cps.toList && risingS y r) = true := h
    rw [Bool.and_eq_true] at h'
    exact h'.2
theorem sorted_one : ∀ {a b : List Str}, a.Perm b → sortedS a = true → sortedS b = true → a = b
  | [], b, p, _, _ => (List.nil_perm.mp p).symm
  | x :: a, [], p, _, _ => absurd p.length_eq (by simp)
  | x :: a, y :: b, p, ha, hb => by
    have hxy : x = y := by
      have h1 : x = y ∨ x ∈ b := by simpa using p.mem_iff.mp List.mem_cons_self
      have h2 : y = x ∨ y ∈ a := by simpa using p.symm.mem_iff.mp List.mem_cons_self
      rcases h1 with e | h1
      · exact e
      rcases h2 with e | h2
      · exact e.symm
      have q1 := rising_le x a ha y h2
      have q2 := rising_le y b hb x h1
      exact Str.ext' (Array.toList_inj.mp (List.le_antisymm (List.not_lt.mp q1) (List.not_lt.mp q2)))
    subst hxy
    rw [sorted_one (List.Perm.cons_inv p) (rising_tail ha) (rising_tail hb)]
end L2
set_option linter.all false
namespace L2
section
variable {α : Type} [DecidableEq α]
noncomputable def frF (b : α → α → Bool) (L : List α) : List α := L.filter fun x => !(L.any fun y => b y x)
noncomputable def lessF (L : List α) (x : α) : List α := L.filter fun y => !decide (y = x)
noncomputable def ext (b : α → α → Bool) : Nat → List α → List (List α)
  | 0, _ => [[]]
  | n + 1, L => (frF b L).flatMap fun x => (ext b n (lessF L x)).map (x :: ·)
noncomputable def cnt (b : α → α → Bool) (L : List α) : Nat := (ext b L.length L).length
theorem mem_frF {b : α → α → Bool} {L : List α} {x : α} : x ∈ frF b L ↔ x ∈ L ∧ ∀ y ∈ L, b y x = false := by
  unfold frF
  rw [List.mem_filter]
  constructor
  · rintro ⟨h1, h2⟩
    refine ⟨h1, fun y hy => ?_⟩
    cases e : b y x with
    | false => rfl
    | true =>
      have : (L.any fun y => b y x) = true := List.any_eq_true.mpr ⟨y, hy, e⟩
      rw [this] at h2
      cases h2
  · rintro ⟨h1, h2⟩
    refine ⟨h1, ?_⟩
    have : (L.any fun y => b y x) = false := by
      rw [Bool.eq_false_iff]
      intro h
      obtain ⟨y, hy, e⟩ := List.any_eq_true.mp h
      rw [h2 y hy] at e
      cases e
    rw [this]
    rfl
theorem mem_lessF {L : List α} {x y : α} : y ∈ lessF L x ↔ y ∈ L ∧ y ≠ x := by
  unfold lessF
  rw [List.mem_filter]
  simp
theorem lessF_nodup {L : List α} (h : L.Nodup) (x : α) : (lessF L x).Nodup := List.Nodup.sublist (List.filter_sublist) h
theorem lessF_no : ∀ {L : List α} {x : α}, x ∉ L → lessF L x = L := fun {L x} h => by
  unfold lessF
  rw [List.filter_eq_self]
  intro y hy
  have : y ≠ x := fun q => h (q ▸ hy)
  simp [this]
theorem lessF_len : ∀ {L : List α} {x : α}, L.Nodup → x ∈ L → (lessF L x).length + 1 = L.length
  | [], _, _, h => by cases h
  | y :: ys, x, hn, h => by
    obtain ⟨h1, h2⟩ := List.nodup_cons.mp hn
    by_cases e : y = x
    · subst e
      have : lessF (y :: ys) y = lessF ys y := by unfold lessF; rw [List.filter_cons, if_neg (by simp)]
      rw [this, lessF_no h1]
      rfl
    · have : lessF (y :: ys) x = y :: lessF ys x := by unfold lessF; rw [List.filter_cons, if_pos (by simp [e])]
      rw [this, List.length_cons, lessF_len h2 ((List.mem_cons.mp h).resolve_left fun q => e q.symm)]
      rfl
theorem cnt_eq {b : α → α → Bool} {L : List α} (hn : L.Nodup) (hne : L ≠ []) : cnt b L = ((frF b L).map fun x => cnt b (lessF L x)).sum := by
  unfold cnt
  cases hl : L.length with
  | zero => exact absurd (List.length_eq_zero_iff.mp hl) hne
  | succ n =>
    show ((frF b L).flatMap fun x => (ext b n (lessF L x)).map (x :: ·)).length = _
    rw [List.length_flatMap]
    congr 1
    apply List.map_congr_left
    intro x hx
    have := lessF_len hn (mem_frF.mp hx).1
    have e : (lessF L x).length = n := by omega
    rw [List.length_map, e]
noncomputable def leftF (ns row : List α) : List α := ns.filter fun x => !decide (x ∈ row)
theorem leftF_snoc (ns row : List α) (x : α) : leftF ns (row ++ [x]) = lessF (leftF ns row) x := by
  unfold leftF lessF
  rw [List.filter_filter]
  apply List.filter_congr
  intro y _
  by_cases h : y ∈ row <;> by_cases e : y = x <;> simp [h, e]
theorem leftF_nil (ns : List α) : leftF ns [] = ns := by
  unfold leftF
  rw [List.filter_eq_self]
  simp
theorem sum_le {f g : α → Nat} : ∀ {l : List α}, (∀ x ∈ l, f x ≤ g x) → (l.map f).sum ≤ (l.map g).sum
  | [], _ => Nat.le_refl _
  | x :: xs, h => by
    have h1 := h x (by simp)
    have h2 := sum_le (l := xs) (f := f) (g := g) fun y hy => h y (by simp [hy])
    simp
    omega
theorem filter_less {p q : α → Bool} : ∀ {l : List α}, (∀ a ∈ l, p a = true → q a = true) → (∃ z ∈ l, q z = true ∧ p z = false) → (l.filter p).length < (l.filter q).length
  | [], _, h => by obtain ⟨z, hz, _⟩ := h; cases hz
  | y :: ys, h, hz => by
    have le : ∀ l : List α, (∀ a ∈ l, p a = true → q a = true) → (l.filter p).length ≤ (l.filter q).length := by
      intro l
      induction l with
      | nil => intro _; exact Nat.le_refl _
      | cons a l ih =>
        intro h
        have := ih fun a ha => h a (by simp [ha])
        rw [List.filter_cons, List.filter_cons]
        cases c : p a with
        | true => rw [if_pos rfl, if_pos (h a (by simp) c)]; simpa using this
        | false =>
          rw [if_neg (by simp)]
          split
          · simp; omega
          · exact this
    rw [List.filter_cons, List.filter_cons]
    obtain ⟨z, hz, hq, hp⟩ := hz
    rcases List.mem_cons.mp hz with rfl | hz
    · rw [hp, if_neg (by simp), if_pos hq, List.length_cons]
      have := le ys fun a ha => h a (by simp [ha])
      omega
    · have ih := filter_less (l := ys) (fun a ha => h a (by simp [ha])) ⟨z, hz, hq, hp⟩
      cases c : p y with
      | true => rw [if_pos rfl, if_pos (h y (by simp) c)]; simpa using ih
      | false =>
        rw [if_neg (by simp)]
        split
        · simp; omega
        · exact ih
theorem fr_over {b : α → α → Bool} (irr : ∀ x, b x x = false) (tr : ∀ x y z, b x y = true → b y z = true → b x z = true) {L : List α} : ∀ (m : Nat) (y : α), y ∈ L → (L.filter fun z => b z y).length ≤ m → ∃ x ∈ frF b L, x = y ∨ b x y = true
  | m, y, hy, hm => by
    by_cases c : ∃ z ∈ L, b z y = true
    · obtain ⟨z, hz, hzy⟩ := c
      have lt : (L.filter fun a => b a z).length < (L.filter fun a => b a y).length := filter_less (fun a _ h => tr a z y h hzy) ⟨z, hz, hzy, irr z⟩
      cases m with
      | zero => omega
      | succ m =>
        obtain ⟨x, hx, h⟩ := fr_over irr tr m z hz (by omega)
        refine ⟨x, hx, .inr ?_⟩
        rcases h with rfl | h
        · exact hzy
        · exact tr x z y h hzy
    · refine ⟨y, mem_frF.mpr ⟨hy, fun z hz => ?_⟩, .inl rfl⟩
      cases e : b z y with
      | false => rfl
      | true => exact absurd ⟨z, hz, e⟩ c
theorem frF_ne {b : α → α → Bool} (irr : ∀ x, b x x = false) (tr : ∀ x y z, b x y = true → b y z = true → b x z = true) {L : List α} (h : L ≠ []) : frF b L ≠ [] := by
  cases L with
  | nil => exact absurd rfl h
  | cons y ys =>
    obtain ⟨x, hx, _⟩ := fr_over irr tr (L := y :: ys) _ y (by simp) (Nat.le_refl _)
    intro e
    rw [e] at hx
    cases hx
end
end L2
set_option Elab.async false
set_option linter.all false
set_option maxRecDepth 100000
set_option maxHeartbeats 4000000
namespace L2
open PySem PySem.Spec PyProof.Rows
section
variable {X : Cx} {K : PySem.W.Frag} {k : Nat} {C : Addr} {f x m : Str} {ps : List Str} {sp : Sp} {e o value : Expr} {es : List Expr} {ta tv : TE} {t : TA} {p pos pos' apos : Pos}
end
section
variable {K : PySem.W.Frag} {C : Addr} {f m : Str} {sp : Sp} {ta tv : TE} {t : TA} {σ : St} {H : Hp} {Q : VK} {D : Ends}
end
section
variable {X : Cx} {K : PySem.W.Frag}
end
section
variable {X : Cx}
end
section
variable {α : Type} [DecidableEq α]
end
end L2
set_option Elab.async false
set_option linter.all false
set_option maxRecDepth 100000
set_option maxHeartbeats 4000000
namespace L2
open PySem PySem.Spec PyProof.Rows
theorem IsL.int_eq {K : PySem.W.Frag} {H : Hp} : ∀ {ns : List Int} {vs : List V}, IsL K H (ns.map PyData.int) vs → vs = ns.map V.int
  | [], vs, h => by simp only [List.map_nil, IsL] at h; exact h
  | n :: ns, vs, h => by
    simp only [List.map_cons, IsL, Is] at h
    obtain ⟨v, r, rfl, rfl, e3⟩ := h
    rw [IsL.int_eq e3]
    rfl
section
variable {K : PySem.W.Frag} {C : Addr} {H H' : Hp} {p dx : Addr} {nv : V} {bd ad kd : Addr} {ns : List Str} {ps : List (Str × Str)} {kvs kvs' : List (Key × V)}
end
theorem wayB_irr {ns : List Str} {ps : List (Str × Str)} (h : HalfW ns ps) (x : Str) : wayB ps x x = false := wayB_false (h.irr x)
theorem wayB_tr {ps : List (Str × Str)} (x y z : Str) (h : wayB ps x y = true) (g : wayB ps y z = true) : wayB ps x z = true := wayB_iff.mpr ((wayB_iff.mp h).trans (wayB_iff.mp g))
end L2
namespace L2
open PySem PySem.Spec PyProof.Rows
section
variable {α : Type} [DecidableEq α]
theorem filter_none (l : List α) (p : α → Bool) : (l.filter p).isEmpty = !(l.any p) := by
  induction l with
  | nil => rfl
  | cons x xs ih =>
    rw [List.filter_cons, List.any_cons]
    cases c : p x with
    | true => rw [if_pos rfl]; rfl
    | false => rw [if_neg (by decide), ih, Bool.false_or]
end
end L2
namespace L2
end L2
namespace L2
open PySem PySem.Spec PyProof.Rows
end L2
set_option linter.all false
namespace L2
section
variable {α : Type} [DecidableEq α]
noncomputable def catN (b : α → α → Bool) (nm : α) : Nat → List α → Nat
  | 0, L => if nm ∈ frF b L then cnt b (lessF L nm) else 0
  | t + 1, L => ((frF b L).map fun x => catN b nm t (lessF L x)).sum
end
end L2
namespace L2
open PySem PySem.Spec PyProof.Rows
theorem putK_ne {p : Key × V} {r : List (Key × V)} {k : Key} {v : V} (h : ¬ p.1 = k) : putK (p :: r) k v = p :: putK r k v := by
  unfold putK
  rw [List.any_cons, decide_eq_false h, Bool.false_or]
  by_cases c : (r.any fun kv => decide (kv.1 = k)) = true
  · rw [if_pos c, if_pos c, List.map_cons, if_neg h]
  · rw [if_neg c, if_neg c]
    rfl
theorem putK_eq {p : Key × V} {r : List (Key × V)} {v : V} (h : p.1 ∉ r.map (·.1)) : putK (p :: r) p.1 v = (p.1, v) :: r := by
  unfold putK
  rw [List.any_cons, decide_eq_true rfl, Bool.true_or, if_pos rfl, List.map_cons, if_pos rfl]
  congr 1
  conv => rhs; rw [← List.map_id r]
  apply List.map_congr_left
  intro kv hkv
  rw [if_neg fun q => h (List.mem_map.mpr ⟨kv, hkv, q⟩)]
  rfl
end L2
namespace L2
open PySem PySem.Spec PyProof.Rows
section
variable {K : PySem.W.Frag} {σ : St} {H : Hp} {Q : VK} {td ty tx : TE}
end
section
variable {K : PySem.W.Frag} {C : Addr} {H H' : Hp} {p dx : Addr} {nv : V} {bd ad kd : Addr} {ns : List Str} {ps : List (Str × Str)} {kvs : List (Key × V)}
end
end L2
namespace L2
open PySem PySem.Spec PyProof.Rows
section
variable {K : PySem.W.Frag} {σ : St} {H : Hp} {Q : VK}
end
end L2
set_option Elab.async false
set_option linter.all false
set_option maxRecDepth 100000
set_option maxHeartbeats 4000000
namespace L2
open PySem PySem.Spec PyProof.Rows
section
variable {X : Cx} {K : PySem.W.Frag}
end
structure HalfC (ns : List Str) (ps : List (Str × Str)) : Prop where
  nd : ns.Nodup
  mem : ∀ p ∈ ps, p.1 ∈ ns ∧ p.2 ∈ ns
  few : ns.length ≤ 100
  le : ps.length ≤ 1100
theorem HalfW.c {ns : List Str} {ps : List (Str × Str)} (h : HalfW ns ps) : HalfC ns ps := ⟨h.nd, h.mem, h.few, Nat.le_trans h.le (by decide)⟩
instance {ns : List Str} {ps : List (Str × Str)} : Coe (HalfW ns ps) (HalfC ns ps) := ⟨HalfW.c⟩
section
variable {α : Type} [DecidableEq α]
noncomputable def okR (b : α → α → Bool) (r : List α) : Prop := (∀ u ∈ r, b u u = false) ∧ r.Pairwise fun u v => b v u = false
theorem less_perm {L : List α} (hn : L.Nodup) {x : α} (hx : x ∈ L) : (x :: lessF L x).Perm L := by
  induction L with
  | nil => cases hx
  | cons y ys ih =>
    obtain ⟨h1, h2⟩ := List.nodup_cons.mp hn
    by_cases e : y = x
    · subst e
      have : lessF (y :: ys) y = ys := by
        have e1 : lessF (y :: ys) y = lessF ys y := by unfold lessF; rw [List.filter_cons, if_neg (by simp)]
        rw [e1, lessF_no h1]
      rw [this]
    · have e1 : lessF (y :: ys) x = y :: lessF ys x := by unfold lessF; rw [List.filter_cons, if_pos (by simp [e])]
      rw [e1]
      exact (List.Perm.swap y x _).trans ((ih h2 ((List.mem_cons.mp hx).resolve_left fun q => e q.symm)).cons y)
theorem mem_ext (b : α → α → Bool) : ∀ (n : Nat) (L r : List α), L.Nodup → L.length = n → (r ∈ ext b n L ↔ r.Perm L ∧ okR b r)
  | 0, L, r, _, hl => by
    have := List.length_eq_zero_iff.mp hl
    subst this
    constructor
    · intro h
      have : r = [] := by simpa [ext] using h
      subst this
      exact ⟨.refl _, (fun _ h => by cases h), List.Pairwise.nil⟩
    · rintro ⟨h, _⟩
      have : r = [] := List.perm_nil.mp h
      subst this
      simp [ext]
  | n + 1, L, r, hn, hl => by
    constructor
    · intro h
      obtain ⟨x, hx, h⟩ := List.mem_flatMap.mp h
      obtain ⟨t, ht, rfl⟩ := List.mem_map.mp h
      have hxL := mem_frF.mp hx
      have hlen := lessF_len hn hxL.1
      obtain ⟨h1, h2, h3⟩ := (mem_ext b n (lessF L x) t (lessF_nodup hn x) (by omega)).mp ht
      refine ⟨(h1.cons x).trans (less_perm hn hxL.1), fun u hu => ?_, List.pairwise_cons.mpr ⟨fun v hv => hxL.2 v (mem_lessF.mp (h1.mem_iff.mp hv)).1, h3⟩⟩
      rcases List.mem_cons.mp hu with rfl | hu
      · exact hxL.2 u hxL.1
      · exact h2 u hu
    · rintro ⟨hp, hd, hpw⟩
      cases r with
      | nil =>
        have := hp.length_eq
        rw [hl] at this
        cases this
      | cons x t =>
        have hxL : x ∈ L := hp.mem_iff.mp (by simp)
        have hlen := lessF_len hn hxL
        have hpt : t.Perm (lessF L x) := List.Perm.cons_inv (hp.trans (less_perm hn hxL).symm)
        obtain ⟨q1, q2⟩ := List.pairwise_cons.mp hpw
        refine List.mem_flatMap.mpr ⟨x, mem_frF.mpr ⟨hxL, fun y hy => ?_⟩, List.mem_map.mpr ⟨t, (mem_ext b n (lessF L x) t (lessF_nodup hn x) (by omega)).mpr ⟨hpt, fun u hu => hd u (by simp [hu]), q2⟩, rfl⟩⟩
        by_cases e : y = x
        · rw [e]
          exact hd x (by simp)
        · exact q1 y (hpt.mem_iff.mpr (mem_lessF.mpr ⟨hy, e⟩))
end
theorem idx_at : ∀ {r : List Str} {x : Str}, x ∈ r → r[r.idxOf x]? = some x ∧ (∀ m < r.idxOf x, r[m]? ≠ some x) ∧ r.idxOf x < r.length
  | [], _, h => by cases h
  | y :: ys, x, h => by
    rw [List.idxOf_cons]
    by_cases e : y = x
    · subst e
      simp
    · have hb : (y == x) = false := by simpa using e
      obtain ⟨h1, h2, h3⟩ := idx_at ((List.mem_cons.mp h).resolve_left fun q => e q.symm)
      rw [hb]
      refine ⟨h1, fun m hm => ?_, by simpa using h3⟩
      cases m with
      | zero => simpa using e
      | succ m => exact h2 m (by simpa using hm)
theorem ok_iff {ns r : List Str} {ps : List (Str × Str)} (hn : ns.Nodup) (hm : ∀ p ∈ ps, p.1 ∈ ns ∧ p.2 ∈ ns) (hp : r.Perm ns) : okR (wayB ps) r ↔ ∀ p ∈ ps, r.idxOf p.1 < r.idxOf p.2 := by
  have hrn : r.Nodup := hp.nodup_iff.mpr hn
  constructor
  · rintro ⟨h1, h2⟩ p hpp
    obtain ⟨m1, m2⟩ := hm p hpp
    obtain ⟨a1, _, a3⟩ := idx_at (hp.mem_iff.mpr m1)
    obtain ⟨b1, _, b3⟩ := idx_at (hp.mem_iff.mpr m2)
    have hw : wayB ps p.1 p.2 = true := wayB_iff.mpr (.one hpp)
    have a4 := (List.getElem?_eq_some_iff.mp a1).2
    have b4 := (List.getElem?_eq_some_iff.mp b1).2
    rcases Nat.lt_trichotomy (r.idxOf p.1) (r.idxOf p.2) with h | h | h
    · exact h
    · have e : p.1 = p.2 := by
        rw [h, b1] at a1
        exact (Option.some.inj a1).symm
      rw [e] at hw
      rw [h1 p.2 (hp.mem_iff.mpr m2)] at hw
      cases hw
    · have := List.pairwise_iff_getElem.mp h2 _ _ b3 a3 h
      rw [a4, b4] at this
      rw [this] at hw
      cases hw
  · intro h
    have hw : ∀ u v, Way ps u v → r.idxOf u < r.idxOf v := fun u v g => by
      induction g with
      | one e => exact h _ e
      | cons e _ ih => exact Nat.lt_trans (h _ e) ih
    refine ⟨fun u hu => ?_, List.pairwise_iff_getElem.mpr fun i j hi hj hij => ?_⟩
    · cases c : wayB ps u u with
      | false => rfl
      | true => exact absurd (hw u u (wayB_iff.mp c)) (Nat.lt_irrefl _)
    · cases c : wayB ps r[j] r[i] with
      | false => rfl
      | true =>
        have g := hw _ _ (wayB_iff.mp c)
        have ix : ∀ k (hk : k < r.length), r.idxOf r[k] = k := fun k hk => by
          obtain ⟨f1, _, f3⟩ := idx_at (List.getElem_mem hk)
          exact (List.getElem_inj hrn).mp (List.getElem?_eq_some_iff.mp f1).2
        rw [ix j hj, ix i hi] at g
        omega
end L2
namespace L2
open PySem PySem.Spec PyProof.Rows
section
variable {prog : Program} {w : World} {A : Around} {E : Value → Shared → Prop} {I : Addr} {fp wr : List Addr} {n : Nat} {P : Nat → Value → Prop} {St : Nat → Heap → Prop}
end
end L2
set_option linter.all false
set_option maxHeartbeats 4000000
namespace L2
open PySem PySem.Spec PyProof.Rows
section
variable {α : Type} [DecidableEq α]
end
noncomputable def hgt (b : Str → Str → Bool) (nm : Str) (ns : List Str) : Nat := ((List.range ns.length).map fun t => t * catN b nm t ns).sum
theorem sum_ones {β : Type} {f : β → Nat} {c : Nat} : ∀ {l : List β}, (∀ x ∈ l, f x = c) → (l.map f).sum = l.length * c
  | [], _ => by simp
  | x :: xs, h => by rw [List.map_cons, List.sum_cons, h x (by simp), sum_ones (l := xs) fun y hy => h y (by simp [hy]), List.length_cons, Nat.add_mul, Nat.one_mul, Nat.add_comm]
end L2
set_option Elab.async false
set_option linter.all false
set_option maxRecDepth 100000
set_option maxHeartbeats 4000000
namespace L2
open PySem PySem.Spec PyProof.Rows
section
variable {prog : Program} {w : World} {A : Around} {E : Value → Shared → Prop} {s : Shared}
end
noncomputable def ItT (a : Addr) (o : Obj) (kvs : List (List Key × V)) (bs : List Addr) : It :=
  ⟨fun i H => H a = some (.frz o (.dT kvs)) ∧ i < bs.length, fun i H x H' => H' = H ∧ ∃ b, bs[i]? = some b ∧ x = .ref b, fun i H => H a = some (.frz o (.dT kvs)) ∧ bs.length ≤ i⟩
end L2
namespace L2
open PySem PySem.Spec PyProof.Rows
end L2
namespace L2
open PySem PySem.Spec PyProof.Rows
section
variable {κ : Type} [DecidableEq κ]
end
end L2
set_option linter.all false
set_option maxHeartbeats 4000000
set_option maxRecDepth 100000
namespace L2
open PySem PySem.Spec PyProof.Rows
section
variable {α β : Type} [DecidableEq α] [DecidableEq β]
end
end L2
set_option linter.all false
set_option maxHeartbeats 4000000
set_option maxRecDepth 100000
namespace L2
open PySem PySem.Spec PyProof.Rows
noncomputable def nm40 (s z a : Nat) : List (List Nat) := (List.range 10).map fun k => cutN s (s + a) ++ sgnN (7 * k % 26) ++ cutN s (s + z - a - 1)
noncomputable def nm41 (s : Nat) : List (List Nat) := (List.range 8).map (fun k => cutN s (s + 1 + k)) ++ [sgnN (s + 9), sgnN (s + 11)]
noncomputable def nm42 (s : Nat) : List (List Nat) := (List.range 10).map fun k => cutN (s + 2 * k) (s + 2 * k + 1 + 5 * k % 8)
noncomputable def nm43 : List Str := ["ahead", "names", "a", "ab", "name", "row", "ask", "last", "first", "aheadahe"]
theorem nd41 : ∀ s < 26, (nm41 s).Nodup := by decide +kernel
theorem nd42 : ∀ s < 26, (nm42 s).Nodup := by decide +kernel
theorem nd40' : ((List.range 10).map fun k => sgnN (7 * k % 26)).Nodup := by decide +kernel
theorem ok_nm43 : Names nm43 := ⟨by decide +kernel, by decide +kernel⟩
theorem nd40 (s z a : Nat) : (nm40 s z a).Nodup := by
  refine nodup_map_on List.nodup_range fun k hk j hj e => ?_
  have e1 : sgnN (7 * k % 26) = sgnN (7 * j % 26) := List.append_cancel_left (List.append_cancel_right e)
  exact inj_of_nodup_map (f := fun k => sgnN (7 * k % 26)) nd40' k hk j hj e1
theorem ok_nm40 {s z a : Nat} (hs : s < 26) (ha : a < z) (hz : z ≤ 8) : Names ((nm40 s z a).map txt) := by
  refine ⟨nodup_txt (nd40 s z a), fun y hy => ?_⟩
  obtain ⟨l, hl, rfl⟩ := List.mem_map.mp hy
  obtain ⟨k, hk, rfl⟩ := List.mem_map.mp hl
  have hm : 7 * k % 26 < 26 := Nat.mod_lt _ (by decide)
  have e1 := cutN_len (a := s) (b := s + a) (by omega) (by omega)
  have e2 := sgnN_len (i := 7 * k % 26) (by omega)
  have e3 := cutN_len (a := s) (b := s + z - a - 1) (by omega) (by omega)
  refine txt_name (by simp only [List.length_append]; omega) (by simp only [List.length_append]; omega) fun c hc => ?_
  rcases List.mem_append.mp hc with hc | hc
  · rcases List.mem_append.mp hc with hc | hc
    · exact cutN_small c hc
    · exact sgnN_small c hc
  · exact cutN_small c hc
theorem ok_nm41 {s : Nat} (hs : s < 26) : Names ((nm41 s).map txt) := by
  refine ⟨nodup_txt (nd41 s hs), fun z hz => ?_⟩
  obtain ⟨l, hl, rfl⟩ := List.mem_map.mp hz
  rcases List.mem_append.mp hl with h | h
  · obtain ⟨k, hk, rfl⟩ := List.mem_map.mp h
    have hk := List.mem_range.mp hk
    have e := cutN_len (a := s) (b := s + 1 + k) (by omega) (by omega)
    exact txt_name (by omega) (by omega) cutN_small
  · simp only [List.mem_cons, List.not_mem_nil, or_false] at h
    rcases h with rfl | rfl
    · have e := sgnN_len (i := s + 9) (by omega)
      exact txt_name (by omega) (by omega) sgnN_small
    · have e := sgnN_len (i := s + 11) (by omega)
      exact txt_name (by omega) (by omega) sgnN_small
theorem ok_nm42 {s : Nat} (hs : s < 26) : Names ((nm42 s).map txt) := by
  refine ⟨nodup_txt (nd42 s hs), fun z hz => ?_⟩
  obtain ⟨l, hl, rfl⟩ := List.mem_map.mp hz
  obtain ⟨k, hk, rfl⟩ := List.mem_map.mp hl
  have hk := List.mem_range.mp hk
  have hm : 5 * k % 8 < 8 := Nat.mod_lt _ (by decide)
  have e := cutN_len (a := s + 2 * k) (b := s + 2 * k + 1 + 5 * k % 8) (by omega) (by omega)
  exact txt_name (by omega) (by omega) cutN_small
theorem half_of9 {ns ls : List Str} {ps : List (Str × Str)} (h : Names ns) (hl : ns.length ≤ 10) (p : ls.Perm ns) (u : Up ls ps) (hp : ps.length ≤ 60) : Half ns ps := ⟨h, hl, hp, ls, p, u⟩
theorem perm_strs9 {ns : List Str} {ys : List V} (h : ys.Perm (ns.map V.str)) : ∃ ls : List Str, ys = ls.map V.str ∧ ls.Perm ns := by
  refine ⟨ys.map fun v => match v with | .str z => z | _ => "", ?_, ?_⟩
  · rw [List.map_map]
    have : ∀ v ∈ ys, (V.str ∘ fun v => match v with | .str z => z | _ => "") v = v := fun v hv => by
      obtain ⟨z, _, rfl⟩ := List.mem_map.mp (h.mem_iff.mp hv)
      rfl
    rw [List.map_congr_left this]
    simp
  · have := h.map fun v => match v with | .str z => z | _ => ("" : Str)
    rw [List.map_map] at this
    have e : ns.map ((fun v => match v with | .str z => z | _ => ("" : Str)) ∘ V.str) = ns := by
      rw [show ((fun v => match v with | .str z => z | _ => ("" : Str)) ∘ V.str) = id from rfl, List.map_id]
    rw [e] at this
    exact this
theorem putK_tab : ∀ {ns : List Str} {as : List Addr} {i : Nat} {z : Str} {q : Addr}, ns.Nodup → as.length = ns.length → ns[i]? = some z → putK (tabK ns as) (Sum.inr z : Key) (.ref q) = tabK ns (as.set i q)
  | [], _, i, _, _, _, _, h => by simp at h
  | n :: ns, [], i, _, _, _, hl, _ => by simp at hl
  | n :: ns, b :: as, 0, z, q, hn, hl, h => by
    have hz : n = z := by simpa using h
    subst hz
    have : (Sum.inr n : Key) ∉ (tabK ns as).map (·.1) := by
      have := keys_tab (as := b :: as) hn
      exact (List.nodup_cons.mp this).1
    exact putK_eq (p := (Sum.inr n, V.ref b)) this
  | n :: ns, b :: as, i + 1, z, q, hn, hl, h => by
    have hz : ns[i]? = some z := by simpa using h
    have hne : ¬ n = z := fun e => (List.nodup_cons.mp hn).1 (e ▸ List.mem_of_getElem? hz)
    have h1 : ¬ ((Sum.inr n : Key) = Sum.inr z) := fun e => hne (Sum.inr.inj e)
    show putK ((Sum.inr n, V.ref b) :: tabK ns as) _ _ = (Sum.inr n, V.ref b) :: tabK ns (as.set i q)
    rw [putK_ne (p := ((Sum.inr n : Key), V.ref b)) h1, putK_tab (List.nodup_cons.mp hn).2 (by simpa using hl) hz]
structure Ovr (H : Hp) (r : Addr) (ns : List Str) (as : List Addr) (ov : Str → List Str) : Prop where
  len : as.length = ns.length
  top : H r = some (.dK (tabK ns as))
  row : ∀ (i : Nat) (z : Str) (a : Addr), ns[i]? = some z → as[i]? = some a → H a = some (.lst ((ov z).map V.str))
theorem Ovr.same {H H' : Hp} {r : Addr} {ns : List Str} {as : List Addr} {ov : Str → List Str} (h : Ovr H r ns as ov) (e : Same H H') : Ovr H' r ns as ov := ⟨h.len, e _ _ h.top, fun i z a hz ha => e _ _ (h.row i z a hz ha)⟩
theorem Ovr.at {H : Hp} {r : Addr} {ns : List Str} {as : List Addr} {ov : Str → List Str} (h : Ovr H r ns as ov) {x : Str} (hx : x ∈ ns) : ∃ (i : Nat) (a : Addr), ns[i]? = some x ∧ as[i]? = some a := by
  obtain ⟨i, hi, e⟩ := List.getElem_of_mem hx
  have hi' : i < as.length := by rw [h.len]; exact hi
  exact ⟨i, as[i], by rw [List.getElem?_eq_getElem hi, e], List.getElem?_eq_getElem hi'⟩
noncomputable def ovP (ov : Str → List Str) (x : Str) (fr : List Str) : Str → List Str := fun z => if z = x then ov z ++ fr else ov z
theorem Ovr.put {H H' : Hp} {r q : Addr} {ns : List Str} {as : List Addr} {ov : Str → List Str} (hn : ns.Nodup) (h : Ovr H r ns as ov) {x : Str} {i : Nat} (hx : ns[i]? = some x) {fr : List Str} (e : ExtBut r H H') (hq : H q = some (.lst ((ov x ++ fr).map V.str))) (ht : H' r = some (.dK (putK (tabK ns as) (Sum.inr x : Key) (.ref q)))) : Ovr H' r ns (as.set i q) (ovP ov x fr) := by
  have hi : i < ns.length := (List.getElem?_eq_some_iff.mp hx).1
  refine ⟨by rw [List.length_set, h.len], by rw [ht, putK_tab hn h.len hx], fun j z a hz ha => ?_⟩
  by_cases c : i = j
  · subst c
    rw [hx] at hz
    cases hz
    rw [List.getElem?_set_self (by rw [h.len]; exact hi)] at ha
    cases ha
    have : q ≠ r := ne_of hq h.top (by intro z; cases z)
    rw [e _ _ this hq]
    unfold ovP
    rw [if_pos rfl]
  · rw [List.getElem?_set_ne c] at ha
    have hzx : z ≠ x := fun e => by
      subst e
      obtain ⟨a1, a2⟩ := List.getElem?_eq_some_iff.mp hx
      obtain ⟨b1, b2⟩ := List.getElem?_eq_some_iff.mp hz
      exact c ((List.getElem_inj hn).mp (a2.trans b2.symm))
    have h0 := h.row j z a hz ha
    have : a ≠ r := ne_of h0 h.top (by intro z; cases z)
    rw [e _ _ this h0]
    unfold ovP
    rw [if_neg hzx]
structure OvOk (ns : List Str) (ps : List (Str × Str)) (ov : Str → List Str) : Prop where
  nd : ∀ z ∈ ns, (ov z).Nodup
  way : ∀ z ∈ ns, ∀ y ∈ ov z, Way ps z y
noncomputable def totO (ns : List Str) (ov : Str → List Str) : Nat := (ns.map fun z => (ov z).length).sum
theorem tot_put {ns : List Str} {ov : Str → List Str} {x : Str} (hn : ns.Nodup) (hx : x ∈ ns) (fr : List Str) : totO ns (ovP ov x fr) = totO ns ov + fr.length := by
  unfold totO
  induction ns with
  | nil => cases hx
  | cons n ns ih =>
    obtain ⟨h1, h2⟩ := List.nodup_cons.mp hn
    rw [List.map_cons, List.map_cons, List.sum_cons, List.sum_cons]
    by_cases c : n = x
    · subst c
      have e1 : (ovP ov n fr n).length = (ov n).length + fr.length := by unfold ovP; rw [if_pos rfl, List.length_append]
      have e2 : (ns.map fun z => (ovP ov n fr z).length) = ns.map fun z => (ov z).length := by
        apply List.map_congr_left
        intro z hz
        unfold ovP
        rw [if_neg fun (e : z = n) => h1 (e ▸ hz)]
      rw [e1, e2]
      omega
    · have e1 : (ovP ov x fr n).length = (ov n).length := by unfold ovP; rw [if_neg c]
      rw [e1, ih h2 ((List.mem_cons.mp hx).resolve_left fun e => c e.symm)]
      omega
theorem OvOk.len {ns : List Str} {ps : List (Str × Str)} {ov : Str → List Str} (h : OvOk ns ps ov) (hm : ∀ p ∈ ps, p.1 ∈ ns ∧ p.2 ∈ ns) {z : Str} (hz : z ∈ ns) : (ov z).length ≤ ns.length :=
  nodup_le (h.nd z hz) fun y hy => by
    obtain ⟨p, hp, e⟩ := List.mem_map.mp (h.way z hz y hy).right
    exact e ▸ (hm p hp).2
theorem OvOk.tot {ns : List Str} {ps : List (Str × Str)} {ov : Str → List Str} (h : OvOk ns ps ov) (hm : ∀ p ∈ ps, p.1 ∈ ns ∧ p.2 ∈ ns) : totO ns ov ≤ ns.length * ns.length := by
  have : totO ns ov ≤ (ns.map fun _ => ns.length).sum := sum_le fun z hz => h.len hm hz
  have e : (ns.map fun _ => ns.length).sum = ns.length * ns.length := sum_ones fun _ _ => rfl
  omega
noncomputable def frsh (ov : Str → List Str) (p : Str × Str) : List Str := (p.2 :: ov p.2).filter fun z => !decide (z ∈ ov p.1)
theorem OvOk.put {ns : List Str} {ps : List (Str × Str)} {ov : Str → List Str} (h : OvOk ns ps ov) (irr : ∀ x, ¬ Way ps x x) {p : Str × Str} (hp : p ∈ ps) (hm : p.1 ∈ ns ∧ p.2 ∈ ns) : OvOk ns ps (ovP ov p.1 (frsh ov p)) := by
  have hnd : (p.2 :: ov p.2).Nodup := List.nodup_cons.mpr ⟨fun hi => irr _ (h.way _ hm.2 _ hi), h.nd _ hm.2⟩
  refine ⟨fun z hz => ?_, fun z hz y hy => ?_⟩
  · unfold ovP
    by_cases c : z = p.1
    · rw [if_pos c, List.nodup_append]
      refine ⟨h.nd z hz, hnd.filter _, fun a ha b hb e => ?_⟩
      subst e
      have := (List.mem_filter.mp hb).2
      rw [c] at ha
      rw [decide_eq_true ha] at this
      cases this
    · rw [if_neg c]
      exact h.nd z hz
  · unfold ovP at hy
    by_cases c : z = p.1
    · rw [if_pos c] at hy
      subst c
      rcases List.mem_append.mp hy with hy | hy
      · exact h.way _ hz y hy
      · rcases List.mem_cons.mp (List.mem_filter.mp hy).1 with e | e
        · exact e ▸ .one hp
        · exact .cons hp (h.way _ hm.2 _ e)
    · rw [if_neg c] at hy
      exact h.way z hz y hy
theorem ov_all {ps : List (Str × Str)} {ov : Str → List Str} (h : ∀ p ∈ ps, p.2 ∈ ov p.1 ∧ ∀ y ∈ ov p.2, y ∈ ov p.1) {x y : Str} (g : Way ps x y) : y ∈ ov x := by
  induction g with
  | one e => exact (h _ e).1
  | cons e _ ih => exact (h _ e).2 _ ih
theorem frsh_nil {ov : Str → List Str} {p : Str × Str} (h : frsh ov p = []) : p.2 ∈ ov p.1 ∧ ∀ y ∈ ov p.2, y ∈ ov p.1 := by
  have key : ∀ y ∈ p.2 :: ov p.2, y ∈ ov p.1 := fun y hy => by
    by_cases c : y ∈ ov p.1
    · exact c
    · have : y ∈ frsh ov p := List.mem_filter.mpr ⟨hy, by rw [decide_eq_false c]; rfl⟩
      rw [h] at this
      cases this
  exact ⟨key _ (by simp), fun y hy => key y (by simp [hy])⟩
theorem ovP_nil (ov : Str → List Str) (x : Str) : ovP ov x [] = ov := by
  funext z
  unfold ovP
  split
  · rw [List.append_nil]
  · rfl
theorem Ovr.tab {K : PySem.W.Frag} {H : Hp} {r : Addr} {ns : List Str} {as : List Addr} {ps : List (Str × Str)} {ov : Str → List Str} (h : Ovr H r ns as ov) (o : OvOk ns ps ov) (c : ∀ p ∈ ps, p.2 ∈ ov p.1 ∧ ∀ y ∈ ov p.2, y ∈ ov p.1) : TabL K H r ns as (Way ps) :=
  ⟨h.len, h.top, fun i z a hz ha => ⟨ov z, h.row i z a hz ha, o.nd z (List.mem_of_getElem? hz), fun y => ⟨o.way z (List.mem_of_getElem? hz) y, ov_all c⟩⟩⟩
theorem cnt_pos {α : Type} [DecidableEq α] {b : α → α → Bool} (irr : ∀ x, b x x = false) (tr : ∀ x y z, b x y = true → b y z = true → b x z = true) : ∀ (n : Nat) (L : List α), L.length = n → L.Nodup → 0 < cnt b L
  | 0, L, hl, _ => by
    have := List.length_eq_zero_iff.mp hl
    subst this
    exact Nat.zero_lt_one
  | n + 1, L, hl, hn => by
    have hne : L ≠ [] := by intro e; rw [e] at hl; cases hl
    rw [cnt_eq hn hne]
    cases hf : frF b L with
    | nil => exact absurd hf (frF_ne irr tr hne)
    | cons x t =>
      have hx : x ∈ frF b L := by rw [hf]; simp
      have := lessF_len hn (mem_frF.mp hx).1
      have := cnt_pos irr tr n (lessF L x) (by omega) (lessF_nodup hn x)
      rw [List.map_cons, List.sum_cons]
      omega
end L2
set_option Elab.async false
set_option linter.all false
set_option maxRecDepth 100000
set_option maxHeartbeats 4000000
namespace L2
open PySem PySem.Spec PyProof.Rows
theorem Half.ok4 {ns : List Str} {ps : List (Str × Str)} (h : Half ns ps) : ∀ z ∈ ns, PyData.strOk z = true := fun z hz => (nm_ok (h.names.2 z hz)).1
section
variable {α : Type} [DecidableEq α]
end
section
variable {X : Cx}
end
end L2
set_option Elab.async false
set_option linter.all false
set_option maxRecDepth 100000
set_option maxHeartbeats 4000000
namespace L2
open PySem PySem.Spec PyProof.Rows
noncomputable def ItE (K : PySem.W.Frag) (a : Addr) : It :=
  ⟨fun i H => ∃ xs x, SqL K H a xs ∧ xs[i]? = some x, fun i H v H' => ∃ t x, H t = none ∧ H' = upd H t (.tup [.int i, x]) ∧ v = .ref t ∧ ∀ xs, SqL K H a xs → xs[i]? = some x, fun i H => ∃ xs, SqL K H a xs ∧ xs.length = i⟩
theorem turn_enumL {P : Program} {w : World} {K : PySem.W.Frag} {elts : List Expr} {ek : Nat} {epos : Pos} (a it e : Addr) (hei : e ≠ it) (hai : a ≠ it) (hae : a ≠ e) : Turn P w K (.Tuple elts ek epos) (ItE K a) [e, it] e (fun i h => (∃ old, IsEnum h e it i old) ∧ h.IsListIter it a i) where
  mem := by simp
  obj := fun i h st b hb => by
    obtain ⟨⟨old, h1⟩, o, h2, h3, h4⟩ := st
    rcases List.mem_cons.mp hb with rfl | hb
    · exact ⟨_, h1, fun v z => by cases z⟩
    · have q : b = it := by simpa using hb
      subst q
      exact ⟨o, h2, fun v z => by rw [h4] at z; cases z⟩
  keep := fun i h h' st k => by
    obtain ⟨⟨old, h1⟩, h2⟩ := st
    exact ⟨⟨old, k e (by simp) _ h1⟩, h2.at fun o q => k it (by simp) o q⟩
  item := by
    intro X hP hw hK hc i pins s σ H E I hf st hg
    subst hP hw hK
    obtain ⟨xs, x, hq, hx⟩ := hg
    obtain ⟨its, rv, p, hz⟩ := I.list hq
    have hil : i < its.length := by
      have := (List.getElem?_eq_some_iff.mp hx).1
      rw [← rv.length]
      exact this
    have D := Draws.list (prog := X.prog) (w := X.w) (A := X.A.in1) (by simpa using I.ok.hd hc) it a hai its.toArray
    obtain ⟨⟨old, he⟩, hit⟩ := st
    have hel : e < s.heap.objs.size := Heap.lt_size he
    have hil' : it < s.heap.objs.size := let ⟨_, q, _⟩ := hit; Heap.lt_size q
    refine wpAny_pyNext_enum_itemD D he ⟨hit, (PlainL.isList p)⟩ (by simpa using hil) hei (by simp [hei, Ne.symm hae]) fun v h1 tk hv ho hst hT hsz hk => ?_
    obtain ⟨u, hu, ru⟩ := rv.get hx
    have hvu : v = u := by
      have hv' : its.toArray[i]? = some v := hv
      rw [List.getElem?_toArray, hu] at hv'
      exact (Option.some.inj hv').symm
    subst hvu
    refine ⟨_, rfl, wpAny_letOwnedTupleGo_enum ho fun h2 he2 hs2 => ?_⟩
    have hTn : H s.heap.objs.size = none := I.hok.fresh (Nat.le_refl _)
    have hT2 : h2.get? s.heap.objs.size = some { cls := .type "tuple", data := .seq #[.int i tk, v] } := (hs2.2 _ (Nat.ne_of_gt hel)).trans hT
    have I1 : Inv X pins σ (upd H s.heap.objs.size (.tup [.int i, x])) { s with heap := s.heap.push { cls := .type "tuple", data := .seq #[.int i tk, v] } } :=
      I.laid (t' := s.toks) (fun b ob q => Heap.get?_push_of_some _ q) (Nat.le_refl _) ⟨by simp [sizeLine_eq], [.int i tk, v], .cons ⟨tk, rfl⟩ (.cons ru .nil), _, Heap.get?_push_size _ rfl, rfl, ⟨_, rfl⟩, rfl⟩
    have nT : ∀ b ∈ [e, it], b ≠ s.heap.objs.size := fun b hb => by
      rcases List.mem_cons.mp hb with rfl | hb
      · exact Nat.ne_of_lt hel
      · have q : b = it := by simpa using hb
        subst q
        exact Nat.ne_of_lt hil'
    have I2 : Inv X pins σ (upd H s.heap.objs.size (.tup [.int i, x])) { s with heap := h2, toks := tk + 1 } := Inv.turnedL (s := { s with heap := s.heap.push { cls := .type "tuple", data := .seq #[.int i tk, v] } }) (ch := [e, it]) I1 (fun b ob hb q => ?_) (fun b hb => ?_)
    · refine ⟨.ref s.heap.objs.size, _, I2, rfl, ⟨_, x, hTn, rfl, rfl, fun ys hy => by rw [I.list_inj hy hq]; exact hx⟩, ⟨⟨_, by simpa using he2⟩, hst.1.at fun o q => (hs2.2 it (Ne.symm hei)).trans q⟩, fun b hb => ?_⟩
      rw [upd_ne (nT b hb)]
      exact (hf b hb).1
    · have hbe : b ≠ e := fun z => hb (by simp [z])
      have hbi : b ≠ it := fun z => hb (by simp [z])
      rcases Heap.get?_push_cases q with ⟨rfl, rfl⟩ | q
      · exact hT2
      · exact (hs2.2 b hbe).trans (hk b ob hbe hbi q)
    · obtain ⟨f0, f1, f2, f3, f4, f5⟩ := hf b hb
      exact ⟨by rw [upd_ne (nT b hb)]; exact f0, f1, f2, f3, f4, f5⟩
  done := by
    intro X hP hw hK hc i pins s σ H E I hf st hg
    subst hP hw hK
    obtain ⟨xs, hq, hx⟩ := hg
    obtain ⟨its, rv, p, hz⟩ := I.list hq
    obtain ⟨⟨old, he⟩, hit⟩ := st
    have hlen : its.toArray.size = i := by rw [List.size_toArray, ← rv.length]; exact hx
    have D := Draws.list (prog := X.prog) (w := X.w) (A := X.A.in1) (by simpa using I.ok.hd hc) it a hai its.toArray
    rw [hlen] at D
    refine wpAny_pyNext_enum_endD D he ⟨hit, (PlainL.isList p)⟩ fun h' hk => ⟨rfl, I.turnedL (t' := s.toks) (ch := [e, it]) (fun b o hb q => hk b o (fun z => hb (by simp [z])) q) hf⟩
  self := by
    intro A i s Q E st hQ
    obtain ⟨⟨old, he⟩, _⟩ := st
    exact wpAny_pyIter_enum he hQ
section
variable {X : Cx} {K : PySem.W.Frag}
noncomputable def rEnumL (K : PySem.W.Frag) (vs : List V) (H : Hp) (R : It → Hp → Prop) : Prop := ∃ a xs, vs = [.ref a] ∧ SqL K H a xs ∧ R (ItE K a) H
noncomputable def iEnumL (K : PySem.W.Frag) (ta : TA) : TI := fun σ H R => ta σ H fun vs H1 => rEnumL K vs H1 R
theorem pi_enumL {e : Expr} {ta : TA} {p pos : Pos} {elts : List Expr} {ek : Nat} {epos : Pos} (hg : Gl X "enumerate") (hm : X.mg "enumerate" = none) (ha : PA X [e] ta) (hK : X.K = K := by with_unfolding_all rfl) (hs : starEach [e] X.env = [(false, eval e X.env)] := by with_unfolding_all rfl) :
    PI X (.Tuple elts ek epos) (.Call (.Name "enumerate" p) [e] [] pos) (iEnumL K ta) := by
  subst hK
  intro pins s σ H R I h
  refine Call_ (ld_blt I hg hm boot_enumerate (PyProof.Rows.callWith_type1 (thn (ha pos pins s σ H _ I h) fun us s1 ⟨vs, H1, I1, r1, q1⟩ => ?_) hs rfl))
  obtain ⟨a, xs, rfl, hq, q⟩ := q1
  obtain ⟨u, rfl, ru⟩ := Vals.one r1
  cases ru
  obtain ⟨its, rv, ht, hz⟩ := I1.list hq
  have hal : a < s1.heap.objs.size := let ⟨_, q, _⟩ := (PlainL.isList ht); Heap.lt_size q
  refine call_enumerate_list (PlainL.isList ht) fun h' he hit _ hk => ?_
  refine wpAny_pyIter_enum he ?_
  refine ⟨s1.heap.objs.size + 1, [s1.heap.objs.size + 1, s1.heap.objs.size], _, _, H1, rfl, I1.kept (t' := s1.toks) hk, turn_enumL a s1.heap.objs.size (s1.heap.objs.size + 1) (Nat.succ_ne_self _) (Nat.ne_of_lt hal) (Nat.ne_of_lt (Nat.lt_succ_of_lt hal)), ⟨⟨_, he⟩, hit⟩, fun b hb => ?_, q⟩
  rcases List.mem_cons.mp hb with rfl | hb
  · exact I1.fpOk (Nat.le_succ _) (I1.hok.fresh (Nat.le_succ _))
  · have e : b = s1.heap.objs.size := by simpa using hb
    subst e
    exact I1.fpOk (Nat.le_refl _) (I1.hok.fresh (Nat.le_refl _))
end
section
variable {K : PySem.W.Frag} {σ : St} {H : Hp}
theorem i_ienumL {ts : TA} {R : It → Hp → Prop} (k : ts σ H fun vs H1 => rEnumL K vs H1 R) : iEnumL K ts σ H R := k
theorem for_enumL {xs : List V} {a : Addr} {n m : Nat} {tb : TS} {D : Ends} (h : SqL K H a xs) (Pv : Nat → St → Hp → Prop) (h0 : Pv 0 σ H) (hG : ∀ i σ' H', Pv i σ' H' → SqL K H' a xs)
    (hs : ∀ i x σ' H' H2, xs[i]? = some x → Pv i σ' H' → Same H' H2 → tb { D with nx := Pv (i + 1), ct := Pv (i + 1), bk := D.nx } ((σ'.set n (some (.int i))).set m (some x)) H2) (hd : ∀ σ' H', Pv xs.length σ' H' → D.nx σ' H') :
    rEnumL K [.ref a] H fun J H1 => rFor (gTup K 2 (gCons (gName n) (gCons (gName m) gNil))) tb D σ J H1 := by
  refine ⟨a, xs, rfl, h, fun i k σ' H' => k = xs.length - i ∧ i ≤ xs.length ∧ Pv i σ' H', ⟨xs.length, by simp, Nat.zero_le _, h0⟩, ?_⟩
  rintro i k σ' H' ⟨rfl, hi, p⟩
  have g := hG i σ' H' p
  by_cases hlt : i < xs.length
  · refine .inr ⟨⟨xs, xs[i], g, List.getElem?_eq_getElem hlt⟩, Pv (i + 1), fun σ2 H2 p2 => ⟨xs.length - (i + 1), by omega, rfl, hlt, p2⟩, fun v H2 y => ?_⟩
    obtain ⟨t, x, ht, rfl, rfl, hx⟩ := y
    exact ⟨t, _, rfl, SqT.of upd_same, rfl, .int i, [x], rfl, x, [], rfl, rfl, hs i x σ' H' _ (hx xs g) p (Same.upd ht)⟩
  · have e : i = xs.length := by omega
    subst e
    exact .inl ⟨⟨xs, g, rfl⟩, hd σ' H' p⟩
end
end L2
set_option Elab.async false
set_option linter.all false
set_option maxRecDepth 100000
set_option maxHeartbeats 4000000
namespace L2
open PySem PySem.W PyProof.Rows
section
variable {n : Nat} {r : Nat → Nat}
end
section
variable {prog : Program} {w : World} {A : Around} {E : Value → Shared → Prop} {z : Shared}
end
section
variable {prog : Program} {w : World} {A : Around} {E : Value → Shared → Prop} {z : Shared}
end
section
variable {X : Cx} {K : PySem.W.Frag}
end
end L2
set_option Elab.async false
set_option linter.all false
set_option maxRecDepth 100000
set_option maxHeartbeats 4000000
namespace L2
open PySem PySem.Spec PyProof.Rows
theorem eqv_strsL (xs ys : List Str) : PyData.eqvAll (xs.map PyData.str) (ys.map PyData.str) = decide (xs = ys) := by
  induction xs generalizing ys with
  | nil => cases ys <;> simp [PyData.eqvAll]
  | cons x xs ih =>
    cases ys with
    | nil => simp [PyData.eqvAll]
    | cons y ys =>
      simp only [List.map_cons, PyData.eqvAll, ih, PyData.eqv]
      by_cases c : x = y
      · subst c; simp
      · simp [c]
theorem eqv_lsts (xs ys : List Str) : PyData.eqv (.list (xs.map PyData.str)) (.list (ys.map PyData.str)) = decide (xs = ys) := by simp only [PyData.eqv, eqv_strsL]
end L2
set_option Elab.async false
set_option linter.all false
set_option maxRecDepth 100000
set_option maxHeartbeats 4000000
namespace L2
open PySem PySem.Spec PyProof.Rows
section
variable {κ : Type} [DecidableEq κ] {P : Program} {w : World} {kd : KeyKind P w κ} {A : Around} {E : Value → Shared → Prop} {z : Shared}
end
section
variable {X : Cx} {K : PySem.W.Frag}
end
end L2
set_option Elab.async false
set_option linter.all false
set_option maxRecDepth 100000
set_option maxHeartbeats 4000000
namespace L2
open PySem PySem.Spec PyProof.Rows
theorem zip_no_getattr : typeLookup (.type "zip") "__getattr__" = pure none := by rw [typeLookup_type, builtinLookup_eq_fast]; kernel_rfl
theorem zip_no_keys : typeLookup (.type "zip") "keys" = pure none := by rw [typeLookup_type, builtinLookup_eq_fast]; kernel_rfl
theorem zip_getattr_entry : entryFor table "zip.__getattribute__" = some Builtin.«object.__getattribute__» :=
  (entryFor_alias (id' := "object.__getattribute__") (by kernel_rfl) (by decide +kernel) (by decide +kernel) (by kernel_rfl))
theorem zip_getattr_miss (c : Addr) (fs : Array Value) (tk0 : Tok) :
    Meets (Builtin.«object.__getattribute__» ⟨[.ref c, .str "keys" tk0], []⟩) (fun A R s => s.heap.get? c = some { cls := .type "zip", dict := none, data := .fields fs, slots := #[] } ∧ raisesAttr (.ref c) "keys" A R s) :=
  Meets.of_wp fun prog w A R s both => by
    obtain ⟨hp, g, d, tk, os⟩ := s
    obtain ⟨hx, hs⟩ := both
    have hT : (⟨hp, g, d, tk, os⟩ : Shared).TypeIs (.ref c) "zip" := ⟨_, hx, rfl⟩
    have miss := zip_no_keys
    unfold Builtin.«object.__getattribute__»
    repeat (any_goals (first | assumption | wp_step))
    exact (wpAny_raiseAttrError hs.1 hs.2 (attrMsg_fits (by decide +kernel) (by rw [sizeLine_eq]; decide +kernel)))
section
variable {P : Program} {w : World} {A : Around} {E : Value → Shared → Prop} {z : Shared}
theorem zip_keys_miss {c : Addr} {fs : Array Value} {Q : Option Value → Shared → Prop} (hx : z.heap.get? c = some { cls := .type "zip", dict := none, data := .fields fs, slots := #[] }) (calm : A.handled = none)
    (go : ∀ g tk, (∀ b o, z.heap.get? b = some o → g.get? b = some o) → Q none { z with heap := g, toks := tk }) : wpAny (model P w) A (getAttr? (.ref c) "keys") Q E z := by
  obtain ⟨hp, g, d, tk, os⟩ := z
  have hT : ∀ tk', (⟨hp, g, d, tk', os⟩ : Shared).TypeIs (.ref c) "zip" := fun _ => ⟨_, hx, rfl⟩
  have f1 := sub_AttributeError
  have g3 := (F.slot_zip_getattribute).lookup
  have g4 := (F.slot_zip_getattribute).bind (.ref c)
  have g5 := zip_no_getattr
  unfold getAttr? getAttrBy? getAttrBy
  repeat (any_goals (first | assumption | exact hT _ | ((with_reducible show wpAny _ _ (call (Value.builtin "zip.__getattribute__") _ _) _ _ _); refine (call_meets F.slot_zip_getattribute (hT _) zip_getattr_entry (F.args_zip_getattribute_2 _ _) (zip_getattr_miss c fs _) ⟨hx, calm, fun h' tk' e hx' => ?_⟩)) | wp_step))
  obtain ⟨t', u', he⟩ := hx'.there
  show wpAny _ _ (getattributeRaised _ _ _ _ _ _ _) _ _ _
  unfold getattributeRaised
  repeat (any_goals (first | assumption | wp_step))
  exact go _ _ hx'.keeps
end
end L2
set_option Elab.async false
set_option linter.all false
set_option maxRecDepth 100000
set_option maxHeartbeats 4000000
namespace L2
open PySem PySem.Spec PyProof.Rows
noncomputable def ZipAt (h : Heap) (c TI TO : Addr) (f0 : Value) (f1 : Bool) : Prop := h.get? c = some { cls := .type "zip", dict := none, data := .fields #[f0, .bool f1, .bool false, .ref TI, .ref TO], slots := #[] }
section
variable {P : Program} {w : World} {A : Around} {E : Value → Shared → Prop} {z : Shared}
theorem not_free {c TI TO T : Addr} {f1 : Bool} {o : Obj} {Q : Bool → Shared → Prop} (hc : ZipAt z.heap c TI TO (rawInt T) f1) (hT : z.heap.get? T = some o)
    (go : ∀ g0, ZipAt g0 c TI TO (rawInt T) true → (∀ b ob, b ≠ c → z.heap.get? b = some ob → g0.get? b = some ob) → g0.objs.size = z.heap.objs.size → Q false { z with heap := g0 }) : wpAny (model P w) A (Builtin.SmallTypes.ownedTupleIsFree (.ref c)) Q E z := by
  unfold Builtin.SmallTypes.ownedTupleIsFree
  refine (wpAny_bind (wpAny_field hc rfl (x := rawInt T) rfl ?_))
  show wpAny _ _ (loadIfAlive T >>= _) _ _ _
  refine (wpAny_bind (PySem.W.kdx_alive hT ?_))
  rw [if_neg (show ¬ ((some o).isNone = true) from fun q => by cases q)]
  refine (wpAny_bind (wpAny_field hc rfl (x := .bool f1) rfl ?_))
  cases f1 with
  | true =>
    rw [if_neg (by decide)]
    exact wpAny_pure (go _ hc (fun _ _ _ q => q) rfl)
  | false =>
    rw [if_pos (by decide)]
    exact wpAny_bind (wpAny_setField_rec hc (by simp) fun g0 hc0 sb0 => wpAny_pure (go g0 hc0 (fun b ob hb q => sb0.extBut b ob hb q) sb0.1))
theorem zip_more {c TI TO i1 i2 T : Addr} {fp1 fp2 : List Addr} {n i : Nat} {P1 P2 : Nat → Value → Prop} {S1 S2 : Nat → Heap → Prop} {f1 : Bool} {o : Obj} {Q : Value → Shared → Prop}
    (D1 : Draws P w A i1 fp1 n P1 S1) (D2 : Draws P w A i2 fp2 n P2 S2) (hi : i < n) (hc : ZipAt z.heap c TI TO (rawInt T) f1) (hTI : IsPair z.heap TI (.ref i1) (.ref i2)) (hT : z.heap.get? T = some o)
    (h1 : S1 i z.heap) (h2 : S2 i z.heap) (c1 : c ∉ fp1) (c2 : c ∉ fp2) (x1 : i1 ∉ fp2) (x2 : i2 ∉ fp1) (y1 : i1 ≠ c) (y2 : i2 ≠ c)
    (go : ∀ g tk (u : Addr) x y, P1 i x → P2 i y → ZipAt g c TI TO (rawInt T) true → IsTup g u #[x, y] → S1 (i + 1) g → S2 (i + 1) g → z.heap.objs.size ≤ u → (∀ b ob, b ≠ c → b ≠ i1 → b ≠ i2 → z.heap.get? b = some ob → g.get? b = some ob) → Q (.ref u) { z with heap := g, toks := tk }) :
    wpAny (model P w) A (Builtin.«zip.__next__» ⟨[.ref c], []⟩) (fun fin s' => ∃ v, fin = .done (.ret v) ∧ Q v s') E z := by
  show wpAny _ _ (field (.ref c) 2 >>= _) _ _ _
  refine (wpAny_bind (wpAny_field hc rfl (x := .bool false) rfl ?_))
  show wpAny _ _ (field (.ref c) 3 >>= _) _ _ _
  refine (wpAny_bind (wpAny_field hc rfl (x := .ref TI) rfl ?_))
  refine (wpAny_bind (wpAny_seqItems hTI rfl ?_))
  show wpAny _ _ (Builtin.SmallTypes.ownedTupleIsFree (.ref c) >>= _) _ _ _
  refine (wpAny_bind (not_free hc hT fun g0 hc0 k0 z0 => ?_))
  simp only [Bool.false_eq_true, if_false]
  rw [← Array.forIn_toList]
  simp only [List.forIn_cons, List.forIn_nil]
  refine (wpAny_bind (wpAny_bind (wpAny_bind (wpAny_holding ?_))))
  show wpAny _ _ (Builtin.SmallTypes.nextOf (.ref i1) >>= _) _ _ _
  have h1' : S1 i g0 := D1.frame i _ _ h1 fun b hb ob q => k0 b ob (fun e => c1 (e ▸ hb)) q
  have h2' : S2 i g0 := D2.frame i _ _ h2 fun b hb ob q => k0 b ob (fun e => c2 (e ▸ hb)) q
  refine (wpAny_bind (D1.item i _ _ _ hi h1' fun x g1 tk1 hx hS1 sb1 => wpAny_pure ?_))
  refine (wpAny_pure ?_)
  refine (wpAny_bind (wpAny_bind (wpAny_holding ?_)))
  show wpAny _ _ (Builtin.SmallTypes.nextOf (.ref i2) >>= _) _ _ _
  have h2'' : S2 i g1 := D2.frame i _ _ h2' fun b hb ob q => sb1.extBut b ob (fun e => x1 (e ▸ hb)) q
  refine (wpAny_bind (D2.item i _ _ _ hi h2'' fun y g2 tk2 hy hS2 sb2 => wpAny_pure (wpAny_pure (wpAny_pure ?_))))
  refine (wpAny_bind (wpAny_newTuple (wpAny_pure ⟨_, rfl, ?_⟩) (hsz := by show (2 : Nat) ≤ _; rw [sizeLine_eq]; decide)))
  have hS1' : S1 (i + 1) g2 := D1.frame _ _ _ hS1 fun b hb ob q => sb2.extBut b ob (fun e => x2 (e ▸ hb)) q
  have kp : ∀ b ob, b ≠ c → b ≠ i1 → b ≠ i2 → z.heap.get? b = some ob → g2.get? b = some ob := fun b ob b1 b2 b3 q => sb2.extBut b ob b3 (sb1.extBut b ob b2 (k0 b ob b1 q))
  have hsz : g2.objs.size = z.heap.objs.size := (sb2.1.trans sb1.1).trans z0
  refine go (g2.push { cls := .type "tuple", data := .seq #[x, y] }) tk2 g2.objs.size x y hx hy ?_ ⟨_, Heap.get?_push_size _ rfl, rfl, _, rfl⟩ ?_ ?_ (by rw [hsz]; exact Nat.le_refl _) fun b ob b1 b2 b3 q => Heap.get?_push_of_some _ (kp b ob b1 b2 b3 q)
  · exact Heap.get?_push_of_some _ (sb2.extBut _ _ (Ne.symm y2) (sb1.extBut _ _ (Ne.symm y1) hc0))
  · exact D1.frame _ _ _ hS1' fun b _ ob q => Heap.get?_push_of_some _ q
  · exact D2.frame _ _ _ hS2 fun b _ ob q => Heap.get?_push_of_some _ q
theorem zip_over {c TI TO i1 i2 T : Addr} {fp1 : List Addr} {n : Nat} {P1 : Nat → Value → Prop} {S1 : Nat → Heap → Prop} {f1 : Bool} {o : Obj} {Q : PySem.Fin → Shared → Prop}
    (D1 : Draws P w A i1 fp1 n P1 S1) (hc : ZipAt z.heap c TI TO (rawInt T) f1) (hTI : IsPair z.heap TI (.ref i1) (.ref i2)) (hT : z.heap.get? T = some o) (h1 : S1 n z.heap) (c1 : c ∉ fp1)
    (stop : ∀ g e, (∀ b ob, b ≠ c → b ≠ i1 → z.heap.get? b = some ob → g.get? b = some ob) → (∃ ob, g.get? e = some ob ∧ ob.cls = .type "StopIteration") → E (.ref e) { z with heap := g }) :
    wpAny (model P w) A (Builtin.«zip.__next__» ⟨[.ref c], []⟩) Q E z := by
  show wpAny _ _ (field (.ref c) 2 >>= _) _ _ _
  refine (wpAny_bind (wpAny_field hc rfl (x := .bool false) rfl ?_))
  show wpAny _ _ (field (.ref c) 3 >>= _) _ _ _
  refine (wpAny_bind (wpAny_field hc rfl (x := .ref TI) rfl ?_))
  refine (wpAny_bind (wpAny_seqItems hTI rfl ?_))
  show wpAny _ _ (Builtin.SmallTypes.ownedTupleIsFree (.ref c) >>= _) _ _ _
  refine (wpAny_bind (not_free hc hT fun g0 hc0 k0 z0 => ?_))
  simp only [Bool.false_eq_true, if_false]
  rw [← Array.forIn_toList]
  simp only [List.forIn_cons, List.forIn_nil]
  refine (wpAny_bind (wpAny_bind (wpAny_bind (wpAny_holding ?_))))
  show wpAny _ _ (Builtin.SmallTypes.nextOf (.ref i1) >>= _) _ _ _
  have h1' : S1 n g0 := D1.frame n _ _ h1 fun b hb ob q => k0 b ob (fun e => c1 (e ▸ hb)) q
  exact wpAny_bind (D1.done _ _ _ h1' fun g e sb he => stop g e (fun b ob b1 b2 q => sb b ob b2 (k0 b ob b1 q)) he)
theorem zip_first {c TI TO i1 i2 : Addr} {fp1 fp2 : List Addr} {n i : Nat} {P1 P2 : Nat → Value → Prop} {S1 S2 : Nat → Heap → Prop} {u0 v0 : Value} {Q : Value → Shared → Prop}
    (D1 : Draws P w A i1 fp1 n P1 S1) (D2 : Draws P w A i2 fp2 n P2 S2) (hi : i < n) (hc : ZipAt z.heap c TI TO .none false) (hTI : IsPair z.heap TI (.ref i1) (.ref i2)) (hTO : IsPair z.heap TO u0 v0)
    (h1 : S1 i z.heap) (h2 : S2 i z.heap) (c1 : c ∉ fp1) (c2 : c ∉ fp2) (o1 : TO ∉ fp1) (o2 : TO ∉ fp2) (x1 : i1 ∉ fp2) (x2 : i2 ∉ fp1) (y1 : i1 ≠ c) (y2 : i2 ≠ c) (oc : TO ≠ c) (oi1 : TO ≠ i1) (oi2 : TO ≠ i2)
    (go : ∀ g tk (u : Addr) x y, P1 i x → P2 i y → ZipAt g c TI TO (rawInt u) false → IsPair g TO x y → IsTup g u #[x, y] → S1 (i + 1) g → S2 (i + 1) g → z.heap.objs.size ≤ u → (∀ b ob, b ≠ c → b ≠ i1 → b ≠ i2 → b ≠ TO → z.heap.get? b = some ob → g.get? b = some ob) → Q (.ref u) { z with heap := g, toks := tk }) :
    wpAny (model P w) A (Builtin.«zip.__next__» ⟨[.ref c], []⟩) (fun fin s' => ∃ v, fin = .done (.ret v) ∧ Q v s') E z := by
  show wpAny _ _ (field (.ref c) 2 >>= _) _ _ _
  refine (wpAny_bind (wpAny_field hc rfl (x := .bool false) rfl ?_))
  show wpAny _ _ (field (.ref c) 3 >>= _) _ _ _
  refine (wpAny_bind (wpAny_field hc rfl (x := .ref TI) rfl ?_))
  refine (wpAny_bind (wpAny_seqItems hTI rfl ?_))
  show wpAny _ _ (Builtin.SmallTypes.ownedTupleIsFree (.ref c) >>= _) _ _ _
  refine (wpAny_bind ?_)
  unfold Builtin.SmallTypes.ownedTupleIsFree
  refine (wpAny_bind (wpAny_field hc rfl (x := .none) rfl (wpAny_pure ?_)))
  simp only [if_true]
  refine (wpAny_bind (wpAny_rule ?_))
  refine (wpAny_bind (wpAny_field hc rfl (x := .ref TO) rfl ?_))
  refine (wpAny_bind (wpAny_setField_rec hc (by simp) fun g0 hc0 sb0 => ?_))
  refine (wpAny_bind ?_)
  simp only [List.zipIdx_cons, List.zipIdx_nil, List.forIn_cons, List.forIn_nil]
  have h1' : S1 i g0 := D1.frame i _ _ h1 fun b hb ob q => sb0.extBut b ob (fun e => c1 (e ▸ hb)) q
  have h2' : S2 i g0 := D2.frame i _ _ h2 fun b hb ob q => sb0.extBut b ob (fun e => c2 (e ▸ hb)) q
  have hTO0 : IsPair g0 TO u0 v0 := sb0.extBut _ _ oc hTO
  refine (wpAny_bind (wpAny_bind (wpAny_onRaise ?_)))
  show wpAny _ _ (Builtin.SmallTypes.nextOf (.ref i1) >>= _) _ _ _
  refine (wpAny_bind (D1.item i _ _ _ hi h1' fun x g1 tk1 hx hS1 sb1 => wpAny_pure ?_))
  have hTO1 : IsPair g1 TO u0 v0 := sb1.extBut _ _ oi1 hTO0
  refine (wpAny_bind (wpAny_seqItems hTO1 rfl ?_))
  refine (wpAny_bind (wpAny_updateSeq_pair hTO1 fun g2 hTO2 sb2 => ?_))
  refine (wpAny_bind (wpAny_letGo (wpAny_pure ?_)))
  have h2'' : S2 i g2 := D2.frame i _ _ h2' fun b hb ob q => sb2.extBut b ob (fun e => o2 (e ▸ hb)) (sb1.extBut b ob (fun e => x1 (e ▸ hb)) q)
  have hS1' : S1 (i + 1) g2 := D1.frame _ _ _ hS1 fun b hb ob q => sb2.extBut b ob (fun e => o1 (e ▸ hb)) q
  refine (wpAny_bind (wpAny_bind (wpAny_onRaise ?_)))
  show wpAny _ _ (Builtin.SmallTypes.nextOf (.ref i2) >>= _) _ _ _
  refine (wpAny_bind (D2.item i _ _ _ hi h2'' fun y g3 tk3 hy hS2 sb3 => wpAny_pure ?_))
  have hTO3 : IsPair g3 TO x v0 := sb3.extBut _ _ oi2 hTO2
  refine (wpAny_bind (wpAny_seqItems hTO3 rfl ?_))
  refine (wpAny_bind (wpAny_updateSeq_pair hTO3 fun g4 hTO4 sb4 => ?_))
  refine (wpAny_bind (wpAny_letGo (wpAny_pure (wpAny_pure ?_))))
  have hTO4' : IsPair g4 TO x y := hTO4
  refine (wpAny_bind (wpAny_seqItems hTO4' rfl ?_))
  refine (wpAny_bind (wpAny_newTuple ?_))
  have hsz : g4.objs.size = z.heap.objs.size := by rw [sb4.1, sb3.1, sb2.1, sb1.1, sb0.1]
  have hc4 : ZipAt g4 c TI TO .ellipsis false := sb4.extBut _ _ (Ne.symm oc) (sb3.extBut _ _ (Ne.symm y2) (sb2.extBut _ _ (Ne.symm oc) (sb1.extBut _ _ (Ne.symm y1) hc0)))
  have hlt : c < g4.objs.size := Heap.lt_size hc4
  show wpAny _ _ (Builtin.SmallTypes.ownedTupleHandOut (.ref c) (.ref g4.objs.size) >>= _) _ _ _
  refine (wpAny_bind ?_)
  unfold Builtin.SmallTypes.ownedTupleHandOut
  have hc5 : ZipAt (g4.push { cls := .type "tuple", data := .seq #[x, y] }) c TI TO .ellipsis false := Heap.get?_push_of_some _ hc4
  refine (wpAny_bind (wpAny_setField_rec hc5 (by simp) fun g6 hc6 sb6 => ?_))
  refine (wpAny_setField_rec hc6 (by simp) fun g7 hc7 sb7 => ?_)
  have up : ∀ b ob, b ≠ c → g4.get? b = some ob → g7.get? b = some ob := fun b ob b1 q => sb7.extBut b ob b1 (sb6.extBut b ob b1 (Heap.get?_push_of_some _ q))
  refine (wpAny_pure ⟨_, rfl, ?_⟩)
  have hS2' : S2 (i + 1) g4 := D2.frame _ _ _ hS2 fun b hb ob q => sb4.extBut b ob (fun e => o2 (e ▸ hb)) q
  have hS1'' : S1 (i + 1) g4 := D1.frame _ _ _ hS1' fun b hb ob q => sb4.extBut b ob (fun e => o1 (e ▸ hb)) (sb3.extBut b ob (fun e => x2 (e ▸ hb)) q)
  refine go g7 tk3 g4.objs.size x y hx hy hc7 (up _ _ oc hTO4') ⟨_, sb7.extBut _ _ (Nat.ne_of_gt hlt) (sb6.extBut _ _ (Nat.ne_of_gt hlt) (Heap.get?_push_size _ rfl)), rfl, _, rfl⟩ ?_ ?_ (by rw [hsz]; exact Nat.le_refl _) ?_
  · exact D1.frame _ _ _ hS1'' fun b hb ob q => up b ob (fun e => c1 (e ▸ hb)) q
  · exact D2.frame _ _ _ hS2' fun b hb ob q => up b ob (fun e => c2 (e ▸ hb)) q
  · exact fun b ob b1 b2 b3 b4 q => up b ob b1 (sb4.extBut b ob b4 (sb3.extBut b ob b3 (sb2.extBut b ob b4 (sb1.extBut b ob b2 (sb0.extBut b ob b1 q)))))
theorem zip_none {c TI TO i1 i2 : Addr} {fp1 : List Addr} {n : Nat} {P1 : Nat → Value → Prop} {S1 : Nat → Heap → Prop} {Q : PySem.Fin → Shared → Prop}
    (D1 : Draws P w A i1 fp1 n P1 S1) (hc : ZipAt z.heap c TI TO .none false) (hTI : IsPair z.heap TI (.ref i1) (.ref i2)) (h1 : S1 n z.heap) (c1 : c ∉ fp1) (y1 : i1 ≠ c)
    (stop : ∀ g e, (∀ b ob, b ≠ c → b ≠ i1 → z.heap.get? b = some ob → g.get? b = some ob) → (∃ ob, g.get? e = some ob ∧ ob.cls = .type "StopIteration") → E (.ref e) { z with heap := g }) :
    wpAny (model P w) A (Builtin.«zip.__next__» ⟨[.ref c], []⟩) Q E z := by
  show wpAny _ _ (field (.ref c) 2 >>= _) _ _ _
  refine (wpAny_bind (wpAny_field hc rfl (x := .bool false) rfl ?_))
  show wpAny _ _ (field (.ref c) 3 >>= _) _ _ _
  refine (wpAny_bind (wpAny_field hc rfl (x := .ref TI) rfl ?_))
  refine (wpAny_bind (wpAny_seqItems hTI rfl ?_))
  show wpAny _ _ (Builtin.SmallTypes.ownedTupleIsFree (.ref c) >>= _) _ _ _
  refine (wpAny_bind ?_)
  unfold Builtin.SmallTypes.ownedTupleIsFree
  refine (wpAny_bind (wpAny_field hc rfl (x := .none) rfl (wpAny_pure ?_)))
  simp only [if_true]
  refine (wpAny_bind (wpAny_rule ?_))
  refine (wpAny_bind (wpAny_field hc rfl (x := .ref TO) rfl ?_))
  refine (wpAny_bind (wpAny_setField_rec hc (by simp) fun g0 hc0 sb0 => ?_))
  refine (wpAny_bind ?_)
  simp only [List.zipIdx_cons, List.zipIdx_nil, List.forIn_cons, List.forIn_nil]
  have h1' : S1 n g0 := D1.frame n _ _ h1 fun b hb ob q => sb0.extBut b ob (fun e => c1 (e ▸ hb)) q
  refine (wpAny_bind (wpAny_bind (wpAny_onRaise ?_)))
  show wpAny _ _ (Builtin.SmallTypes.nextOf (.ref i1) >>= _) _ _ _
  refine (wpAny_bind (D1.done _ _ _ h1' fun g1 e sb1 he => ?_))
  obtain ⟨oe, hoe, hce⟩ := he
  have hc1 : ZipAt g1 c TI TO .ellipsis false := sb1 _ _ (Ne.symm y1) hc0
  have hez : e ≠ c := fun q => by subst q; rw [show g1.get? _ = _ from hc1] at hoe; cases hoe; simp at hce
  refine (wpAny_setField_rec hc1 (by simp) fun g2 _ sb2 => stop g2 e (fun b ob b1 b2 q => sb2.extBut b ob b1 (sb1 b ob b2 (sb0.extBut b ob b1 q))) ⟨oe, sb2.extBut _ _ hez hoe, hce⟩)
end
end L2
set_option Elab.async false
set_option linter.all false
set_option maxRecDepth 100000
set_option maxHeartbeats 4000000
namespace L2
open PySem PySem.Spec PyProof.Rows
structure ZipOff (c TO i1 i2 D : Addr) (fp1 fp2 : List Addr) : Prop where
  c1 : c ∉ fp1
  c2 : c ∉ fp2
  o1 : TO ∉ fp1
  o2 : TO ∉ fp2
  x1 : i1 ∉ fp2
  x2 : i2 ∉ fp1
  y1 : i1 ≠ c
  y2 : i2 ≠ c
  oc : TO ≠ c
  oi1 : TO ≠ i1
  oi2 : TO ≠ i2
  d1 : D ∉ fp1
  d2 : D ∉ fp2
  dc : D ≠ c
  di1 : D ≠ i1
  di2 : D ≠ i2
  dTO : D ≠ TO
noncomputable def ZipSt (c TI TO i1 i2 D : Addr) (S1 S2 : Nat → Heap → Prop) (i : Nat) (h : Heap) : Prop :=
  IsPair h TI (.ref i1) (.ref i2) ∧ (∃ u v, IsPair h TO u v) ∧ S1 i h ∧ S2 i h ∧ TI ≠ c ∧ TI ≠ TO ∧ TI ≠ i1 ∧ TI ≠ i2 ∧ TI ≠ D ∧
    (ZipAt h c TI TO .none false ∨ ∃ T f o, ZipAt h c TI TO (rawInt (T : Addr)) f ∧ h.get? T = some o ∧ T ≠ c ∧ T ≠ i1 ∧ T ≠ i2 ∧ T ≠ D ∧ T ≠ TO)
section
variable {P : Program} {w : World} {A : Around} {E : Value → Shared → Prop} {z : Shared} {c TI TO i1 i2 D : Addr} {fp1 fp2 : List Addr} {n : Nat} {P1 P2 : Nat → Value → Prop} {S1 S2 : Nat → Heap → Prop}
theorem zip_type (h : ZipSt c TI TO i1 i2 D S1 S2 n z.heap) : z.TypeIs (.ref c) "zip" := by
  obtain ⟨_, _, _, _, _, _, _, _, _, h | ⟨T, f, o, h, _⟩⟩ := h
  · exact ⟨_, h, rfl⟩
  · exact ⟨_, h, rfl⟩
theorem zip_item {i : Nat} {Q : Option Value → Shared → Prop} (O : ZipOff c TO i1 i2 D fp1 fp2) (D1 : Draws P w A.in1 i1 fp1 n P1 S1) (D2 : Draws P w A.in1 i2 fp2 n P2 S2) (hi : i < n) (hD : ∃ o, z.heap.get? D = some o) (hs : ZipSt c TI TO i1 i2 D S1 S2 i z.heap)
    (go : ∀ g tk (u : Addr) x y, P1 i x → P2 i y → ZipSt c TI TO i1 i2 D S1 S2 (i + 1) g → IsTup g u #[x, y] → z.heap.objs.size ≤ u → (∀ b ob, b ≠ c → b ≠ i1 → b ≠ i2 → b ≠ TO → z.heap.get? b = some ob → g.get? b = some ob) → Q (some (.ref u)) { z with heap := g, toks := tk }) :
    wpAny (model P w) A (pyNext (.ref c)) Q E z := by
  have hT := zip_type hs
  obtain ⟨hTI, ⟨u0, v0, hTO⟩, h1, h2, t1, t2, t3, t4, t5, hz⟩ := hs
  have lt1 : ∀ {b ob} {u : Addr}, z.heap.get? b = some ob → z.heap.objs.size ≤ u → u ≠ b := fun q hu e => by subst e; exact absurd (Heap.lt_size q) (Nat.not_lt.mpr hu)
  obtain ⟨oi1, hoi1⟩ := D1.live _ _ h1
  obtain ⟨oi2, hoi2⟩ := D2.live _ _ h2
  obtain ⟨od, hod⟩ := hD
  unfold pyNext
  rcases hz with hc | ⟨T, f, o, hc, hTT, a1, a2, a3, a4, a5⟩
  · refine (wpAny_bind (wpAny_attempt (wpAny_callSpecial?_slot (name := Str.ofString "__next__") hT F.slot_zip_next (wpAny_call_entry F.slot_zip_next hT F.entry_zip_next
      (zip_first D1 D2 hi hc hTI hTO h1 h2 O.c1 O.c2 O.o1 O.o2 O.x1 O.x2 O.y1 O.y2 O.oc O.oi1 O.oi2 fun g tk u x y px py gz gTO gu g1 g2 hu kp => ?_) (F.args_zip_next_1 _)))))
    obtain ⟨ou, hou, ru⟩ := id gu
    exact (wpAny_pure (go g tk u x y px py ⟨kp _ _ t1 t3 t4 t2 hTI, ⟨_, _, gTO⟩, g1, g2, t1, t2, t3, t4, t5, .inr ⟨u, _, ou, gz, hou, lt1 hc hu, lt1 hoi1 hu, lt1 hoi2 hu, lt1 hod hu, lt1 hTO hu⟩⟩ gu hu kp))
  · refine (wpAny_bind (wpAny_attempt (wpAny_callSpecial?_slot (name := Str.ofString "__next__") hT F.slot_zip_next (wpAny_call_entry F.slot_zip_next hT F.entry_zip_next
      (zip_more D1 D2 hi hc hTI hTT h1 h2 O.c1 O.c2 O.x1 O.x2 O.y1 O.y2 fun g tk u x y px py gz gu g1 g2 hu kp => ?_) (F.args_zip_next_1 _)))))
    exact (wpAny_pure (go g tk u x y px py ⟨kp _ _ t1 t3 t4 hTI, ⟨_, _, kp _ _ O.oc O.oi1 O.oi2 hTO⟩, g1, g2, t1, t2, t3, t4, t5, .inr ⟨T, _, o, gz, kp _ _ a1 a2 a3 hTT, a1, a2, a3, a4, a5⟩⟩ gu hu fun b ob b1 b2 b3 _ q => kp b ob b1 b2 b3 q))
theorem zip_end {Q : Option Value → Shared → Prop} (O : ZipOff c TO i1 i2 D fp1 fp2) (D1 : Draws P w A.in1 i1 fp1 n P1 S1) (hs : ZipSt c TI TO i1 i2 D S1 S2 n z.heap)
    (go : ∀ g, (∀ b ob, b ≠ c → b ≠ i1 → z.heap.get? b = some ob → g.get? b = some ob) → Q none { z with heap := g }) :
    wpAny (model P w) A (pyNext (.ref c)) Q E z := by
  have hT := zip_type hs
  obtain ⟨hTI, ⟨u0, v0, hTO⟩, h1, h2, t1, t2, t3, t4, t5, hz⟩ := hs
  unfold pyNext
  rcases hz with hc | ⟨T, f, o, hc, hTT, a1, a2, a3, a4, a5⟩
  · refine (wpAny_bind (wpAny_attempt (wpAny_callSpecial?_slot (name := Str.ofString "__next__") hT F.slot_zip_next (wpAny_call_entry F.slot_zip_next hT F.entry_zip_next
      (zip_none D1 hc hTI h1 O.c1 O.y1 fun g e kp he => ?_) (F.args_zip_next_1 _)))))
    obtain ⟨ob, hob, hcl⟩ := he
    exact (wpAny_bind (wpAny_isInstance (T := "StopIteration") (b := true) ⟨ob, hob, hcl⟩ isSubtype_stop (wpAny_pure (go g kp))))
  · refine (wpAny_bind (wpAny_attempt (wpAny_callSpecial?_slot (name := Str.ofString "__next__") hT F.slot_zip_next (wpAny_call_entry F.slot_zip_next hT F.entry_zip_next
      (zip_over D1 hc hTI hTT h1 O.c1 fun g e kp he => ?_) (F.args_zip_next_1 _)))))
    obtain ⟨ob, hob, hcl⟩ := he
    exact (wpAny_bind (wpAny_isInstance (T := "StopIteration") (b := true) ⟨ob, hob, hcl⟩ isSubtype_stop (wpAny_pure (go g kp))))
end
section
variable {P : Program} {w : World} {κ : Type} [DecidableEq κ] {kd : KeyKind P w κ} {A : Around} {E : Value → Shared → Prop} {c TI TO i1 i2 D : Addr} {fp1 fp2 : List Addr} {n : Nat} {P1 P2 : Nat → Value → Prop} {S1 S2 : Nat → Heap → Prop}
theorem zip_loop (O : ZipOff c TO i1 i2 D fp1 fp2) (D1 : Draws P w A.in1.in1 i1 fp1 n P1 S1) (D2 : Draws P w A.in1.in1 i2 fp2 n P2 S2) (al : List (κ × Value)) (hl : al.length = n) (hz : n ≤ 1000000)
    (ha : ∀ (i : Nat) (kv : κ × Value), al[i]? = some kv → ∀ x y, P1 i x → P2 i y → kd.is kv.1 x = true ∧ y = kv.2) :
    ∀ (j i : Nat) (s : Shared) (R : Result → Shared → Prop), n - i = j → i ≤ n → ZipSt c TI TO i1 i2 D S1 S2 i s.heap → s.heap.DictOf kd D (merged [] (al.take i)) →
      (∀ g tk, g.DictOf kd D (merged [] al) → (∀ b o, b ≠ D → b ≠ c → b ≠ i1 → b ≠ i2 → b ≠ TO → s.heap.get? b = some o → g.get? b = some o) → R (.ok (.ret .none)) { s with heap := g, toks := tk }) →
      codeAny (model P w) A (.builtin "dict.update.loop" ⟨[.ref D, .ref c, .int i 0, .none], []⟩) R s := by
  intro j
  induction j with
  | zero =>
    intro i s R hj hi hS hD go
    have hin : i = n := by omega
    subst hin
    refine (codeAny_builtin entry_dloop ?_)
    rw [Around.under_plainId plain_dloop _]
    show wpAny _ A.in1 (pyNext (.ref c) >>= _) _ _ s
    refine (wpAny_bind (zip_end O D1 hS fun g kp => ?_))
    show wpAny _ A.in1 (Builtin.Dict.addKeywords D [] >>= _) _ _ _
    refine (wpAny_bind (wpAny_pure (wpAny_pure (go g s.toks ?_ fun b o h1 h2 h3 h4 h5 q => kp b o h2 h3 q))))
    rw [← hl, List.take_length] at hD
    obtain ⟨o, es, ep, ho, r⟩ := hD
    exact ⟨o, es, ep, kp D o O.dc O.di1 ho, r⟩
  | succ j ih =>
    intro i s R hj hi hS hD go
    have hlt : i < n := by omega
    obtain ⟨kv, hkv⟩ : ∃ kv, al[i]? = some kv := ⟨al[i]'(by omega), List.getElem?_eq_getElem _⟩
    refine (codeAny_builtin entry_dloop ?_)
    rw [Around.under_plainId plain_dloop _]
    show wpAny _ A.in1 (pyNext (.ref c) >>= _) _ _ s
    obtain ⟨o, es, ep, ho, r⟩ := id hD
    refine (wpAny_bind (zip_item O D1 D2 hlt ⟨o, ho⟩ hS fun g tk u x y px py gS gu hu kp => ?_))
    obtain ⟨hk, rfl⟩ := ha i kv hkv x y px py
    have hD' : g.DictOf kd D (merged [] (al.take i)) := ⟨o, es, ep, kp D o O.dc O.di1 O.di2 O.dTO ho, r⟩
    show wpAny _ A.in1 (holding [Value.ref u] _ >>= _) _ _ _
    refine (wpAny_bind (wpAny_holding ?_))
    refine (wpAny_bind (wpAny_tryCatch (pair_items gu ?_)))
    show wpAny _ A.in1 (holding [x, kv.2] (dictSet D x kv.2)) _ _ _
    refine (wpAny_holding (wpAny_dictSet_pairs hk hD' (fun g' hD'' sb => ?_) ?_))
    · refine (wpAny_pure ⟨plainId_quiet plain_dloop _, ?_⟩)
      have hkeep : ∀ b ob, b ≠ D → b ≠ c → b ≠ i1 → b ≠ i2 → b ≠ TO → s.heap.get? b = some ob → g'.get? b = some ob := fun b ob h1 h2 h3 h4 h5 q => (sb.2 b h1).trans (kp b ob h2 h3 h4 h5 q)
      refine ih (i + 1) _ R (by omega) hlt ?_ ?_ fun g3 tk3 hD3 hk3 => go g3 tk3 hD3 fun b ob h1 h2 h3 h4 h5 q => hk3 b ob h1 h2 h3 h4 h5 (hkeep b ob h1 h2 h3 h4 h5 q)
      · obtain ⟨q1, ⟨p, q, q2⟩, q3, q4, t1, t2, t3, t4, t5, q5⟩ := gS
        have tr : ∀ b ob, b ≠ D → g.get? b = some ob → g'.get? b = some ob := fun b ob h1 q => (sb.2 b h1).trans q
        refine ⟨tr _ _ t5 q1, ⟨p, q, tr _ _ (Ne.symm O.dTO) q2⟩, D1.frame _ _ _ q3 fun b hb ob q => tr b ob (fun e => O.d1 (e ▸ hb)) q, D2.frame _ _ _ q4 fun b hb ob q => tr b ob (fun e => O.d2 (e ▸ hb)) q, t1, t2, t3, t4, t5, ?_⟩
        rcases q5 with q5 | ⟨T, f, ob, q5, q6, a1, a2, a3, a4, a5⟩
        · exact .inl (tr _ _ (Ne.symm O.dc) q5)
        · exact .inr ⟨T, f, ob, tr _ _ (Ne.symm O.dc) q5, tr _ _ a4 q6, a1, a2, a3, a4, a5⟩
      · have e : merged [] (al.take (i + 1)) = stored (merged [] (al.take i)) kv.1 kv.2 := by
          rw [List.take_add_one, hkv]
          unfold merged
          rw [List.foldl_append]
          rfl
        rw [e]
        exact hD''
    · refine Nat.le_trans (merged_length_le _ _) (line_of ?_)
      rw [List.length_take]
      simp
      omega
theorem dict_of_zip {z : Shared} {Q : Value → Shared → Prop} (calm : A.handled = none) (O : ZipOff c TO i1 i2 z.heap.objs.size fp1 fp2) (D1 : Draws P w A.in1.in1.in1 i1 fp1 n P1 S1) (D2 : Draws P w A.in1.in1.in1 i2 fp2 n P2 S2)
    (al : List (κ × Value)) (hl : al.length = n) (hz : n ≤ 1000000) (ha : ∀ (i : Nat) (kv : κ × Value), al[i]? = some kv → ∀ x y, P1 i x → P2 i y → kd.is kv.1 x = true ∧ y = kv.2)
    (hc : ZipAt z.heap c TI TO .none false) (hTI : IsPair z.heap TI (.ref i1) (.ref i2)) (hTO : IsPair z.heap TO .none .none) (h1 : S1 0 z.heap) (h2 : S2 0 z.heap) (t1 : TI ≠ c) (t2 : TI ≠ TO) (t3 : TI ≠ i1) (t4 : TI ≠ i2)
    (go : ∀ g tk, g.DictOf kd z.heap.objs.size (merged [] al) → (∀ b o, b ≠ c → b ≠ i1 → b ≠ i2 → b ≠ TO → z.heap.get? b = some o → g.get? b = some o) → Q (.ref z.heap.objs.size) { z with heap := g, toks := tk }) :
    wpAny (model P w) A (call (.type "dict") [.ref c]) Q E z := by
  refine callType_codes (Q₁ := fun new s₁ => new = .ref z.heap.objs.size ∧ s₁ = { z with heap := z.heap.push { cls := .type "dict", data := .dict #[] } }) F.kt_called_dict (F.kt_typeCall_dict_1 _) F.entry_dict_init (kt_code_dict_new _ ⟨rfl, rfl⟩) ?_
  rintro new s₁ ⟨rfl, rfl⟩
  have hnew : (z.heap.push { cls := .type "dict", data := .dict #[] }).DictOf kd z.heap.objs.size [] := Heap.DictOf.new z.heap
  have hc' : ZipAt (z.heap.push { cls := .type "dict", data := .dict #[] }) c TI TO .none false := Heap.get?_push_of_some _ hc
  refine ⟨hnew.typeIs, F.args_dict_init_2 _ _, ?_⟩
  unfold Builtin.«dict.__init__»
  refine (wpAny_bind ?_)
  unfold Builtin.Dict.selfAndRest
  refine (wpAny_bind (wpAny_notOrdered_dict hnew.typeIs ?_))
  show wpAny _ _ (pure (z.heap.objs.size, [Value.ref c])) _ _ _
  refine (wpAny_pure ?_)
  show wpAny _ _ (Builtin.Dict.updateFrom "dict.__init__" z.heap.objs.size (.ref c) [] .none) _ _ _
  unfold Builtin.Dict.updateFrom
  refine (wpAny_bind (wpAny_typeOf (T := "zip") ⟨_, hc', rfl⟩ ?_))
  rw [if_pos (by decide)]
  refine (wpAny_bind (zip_keys_miss hc' (by simpa using calm) fun g1 tk1 hk1 => ?_))
  rw [if_pos (show (none : Option Value).isNone = true from rfl)]
  have kp : ∀ b o, z.heap.get? b = some o → g1.get? b = some o := fun b o q => hk1 _ _ (Heap.get?_push_of_some _ q)
  have hD1 : g1.DictOf kd z.heap.objs.size [] := by
    obtain ⟨o, es, ep, ho, r⟩ := hnew
    exact ⟨o, es, ep, hk1 _ _ ho, r⟩
  refine (wpAny_bind (wpAny_rule ?_))
  refine (wpAny_bind (wpAny_pyIter_zip (TI := TI) (TO := TO) (f0 := .none) (kp _ _ hc) ?_))
  refine (wpAny_pure ⟨plainId_quiet plain_dloop _, ?_⟩)
  refine zip_loop (kd := kd) (A := A.in1) O D1 D2 al hl hz ha n 0 _ _ (Nat.sub_zero _) (Nat.zero_le _) ⟨kp _ _ hTI, ⟨_, _, kp _ _ hTO⟩, D1.frame _ _ _ h1 fun b _ o q => kp b o q, D2.frame _ _ _ h2 fun b _ o q => kp b o q, t1, t2, t3, t4, Nat.ne_of_lt (Heap.lt_size hTI), .inl (kp _ _ hc)⟩ hD1 fun g tk hD hk => ⟨rfl, go g tk hD fun b o b1 b2 b3 b4 q => hk b o (Nat.ne_of_lt (Heap.lt_size q)) b1 b2 b3 b4 (kp b o q)⟩
end
end L2
set_option Elab.async false
set_option linter.all false
set_option maxRecDepth 100000
set_option maxHeartbeats 4000000
namespace L2
open PySem PySem.Spec PyProof.Rows
noncomputable abbrev liO (l : Addr) : Obj := { cls := .type "list_iterator", data := .fields #[.ref l, .int 0 0] }
noncomputable abbrev zp1 (h : Heap) (p q : Obj) : Heap := (h.push p).push q
noncomputable abbrev zp2 (h : Heap) (p q : Obj) : Heap := (zp1 h p q).push { cls := .type "tuple", data := .seq #[.ref h.objs.size, .ref (h.push p).objs.size] }
noncomputable abbrev zp3 (h : Heap) (p q : Obj) : Heap := (zp2 h p q).push { cls := .type "tuple", data := .seq #[.none, .none] }
noncomputable abbrev zp4 (h : Heap) (p q : Obj) : Heap := (zp3 h p q).push { cls := .type "zip", data := .fields #[.none, .bool false, .bool false, .ref (zp1 h p q).objs.size, .ref (zp2 h p q).objs.size] }
section
variable {P : Program} {w : World} {A : Around} {E : Value → Shared → Prop} {z : Shared}
theorem zp_facts {h : Heap} {p q : Obj} {Q : Value → Shared → Prop} {s : Shared} (hs : s.heap = h)
    (go : ∀ g, ZipAt g (h.objs.size + 4) (h.objs.size + 2) (h.objs.size + 3) .none false → IsPair g (h.objs.size + 2) (.ref h.objs.size) (.ref (h.objs.size + 1)) → IsPair g (h.objs.size + 3) .none .none →
      g.get? h.objs.size = some p → g.get? (h.objs.size + 1) = some q → g.objs.size = h.objs.size + 5 → (∀ b o, h.get? b = some o → g.get? b = some o) → Q (.ref (h.objs.size + 4)) { s with heap := g }) (hp : p.isFreed = false) (hq : q.isFreed = false) :
    Q (.ref (zp3 h p q).objs.size) { s with heap := zp4 h p q } := by
  have z1 : (h.push p).objs.size = h.objs.size + 1 := Heap.size_push ..
  have z2 : (zp1 h p q).objs.size = h.objs.size + 2 := by rw [Heap.size_push, z1]
  have z3 : (zp2 h p q).objs.size = h.objs.size + 3 := by rw [Heap.size_push, z2]
  have z4 : (zp3 h p q).objs.size = h.objs.size + 4 := by rw [Heap.size_push, z3]
  have z5 : (zp4 h p q).objs.size = h.objs.size + 5 := by rw [Heap.size_push, z4]
  have g5 : (zp4 h p q).get? (zp3 h p q).objs.size = some _ := Heap.get?_push_size _ rfl
  have g4 : (zp4 h p q).get? (zp2 h p q).objs.size = some _ := Heap.get?_push_of_some _ (Heap.get?_push_size _ rfl)
  have g3 : (zp4 h p q).get? (zp1 h p q).objs.size = some _ := Heap.get?_push_of_some _ (Heap.get?_push_of_some _ (Heap.get?_push_size _ rfl))
  have g2 : (zp4 h p q).get? (h.push p).objs.size = some q := Heap.get?_push_of_some _ (Heap.get?_push_of_some _ (Heap.get?_push_of_some _ (Heap.get?_push_size _ hq)))
  have g1 : (zp4 h p q).get? h.objs.size = some p := Heap.get?_push_of_some _ (Heap.get?_push_of_some _ (Heap.get?_push_of_some _ (Heap.get?_push_of_some _ (Heap.get?_push_size _ hp))))
  rw [z2, z3, z4] at g5
  rw [z1, z2] at g3
  rw [z3] at g4
  rw [z1] at g2
  rw [z4]
  exact go _ g5 g3 g4 g1 g2 z5 fun b o k => Heap.get?_push_of_some _ (Heap.get?_push_of_some _ (Heap.get?_push_of_some _ (Heap.get?_push_of_some _ (Heap.get?_push_of_some _ k))))
end
end L2
set_option Elab.async false
set_option linter.all false
set_option maxRecDepth 100000
set_option maxHeartbeats 4000000
namespace L2
open PySem PySem.Spec PyProof.Rows
noncomputable def zipK (ns : List Str) (ys : List V) : List (Key × V) := (ns.zip ys).map fun p => (Sum.inr p.1, p.2)
section
variable {X : Cx} {K : PySem.W.Frag}
theorem zip_al : ∀ {ns : List Str} {ys : List V} {ks vs : List Value}, Vals (ns.map V.str) ks → Vals ys vs → ys.length = ns.length →
    ∃ al : List (Key × Value), al.length = ns.length ∧ KV (zipK ns ys) al ∧ ∀ (i : Nat) (kv : Key × Value), al[i]? = some kv → ∀ x y, ks[i]? = some x → vs[i]? = some y → keyIs kv.1 x = true ∧ y = kv.2
  | [], [], _, _, _, _, _ => ⟨[], rfl, .nil, fun i kv h => by simp at h⟩
  | [], _ :: _, _, _, _, _, h => by simp at h
  | _ :: _, [], _, _, _, _, h => by simp at h
  | n :: ns, y :: ys, ks, vs, hk, hv, h => by
    cases hk with
    | cons r1 hk =>
      cases hv with
      | @cons _ v0 _ _ r2 hv =>
        obtain ⟨al, a1, a2, a3⟩ := zip_al hk hv (by simpa using h)
        obtain ⟨t, rfl⟩ := r1
        refine ⟨(Sum.inr n, v0) :: al, by simp [a1], .cons ⟨rfl, r2⟩ a2, fun i kv hi x y hx hy => ?_⟩
        cases i with
        | zero =>
          simp at hi hx hy
          subst hi hx hy
          exact ⟨keyIs_str n t, rfl⟩
        | succ i => exact a3 i kv (by simpa using hi) x y (by simpa using hx) (by simpa using hy)
theorem off_new (m a b : Nat) (ha : a < m) (hb : b < m) : @ZipOff (m + 4) (m + 3) m (m + 1) (m + 5) [m, a] [m + 1, b] := by
  constructor <;> first
    | exact Nat.ne_of_lt (show (_ : Nat) < _ by omega)
    | exact Nat.ne_of_gt (show (_ : Nat) < _ by omega)
    | (intro q; rcases List.mem_cons.mp q with q | q <;> first
        | (exact absurd q (Nat.ne_of_lt (show (_ : Nat) < _ by omega)))
        | (exact absurd q (Nat.ne_of_gt (show (_ : Nat) < _ by omega)))
        | (exact absurd (List.mem_singleton.mp q) (Nat.ne_of_lt (show (_ : Nat) < _ by omega)))
        | (exact absurd (List.mem_singleton.mp q) (Nat.ne_of_gt (show (_ : Nat) < _ by omega))))
end
section
variable {K : PySem.W.Frag} {H : Hp} {Q : VK}
theorem zipK_keys : ∀ {ns : List Str} {ys : List V}, ys.length = ns.length → (zipK ns ys).map (·.1) = ns.map fun n => (Sum.inr n : Key)
  | [], [], _ => rfl
  | [], _ :: _, h => by simp at h
  | _ :: _, [], h => by simp at h
  | n :: ns, y :: ys, h => by
    have ih := zipK_keys (ns := ns) (ys := ys) (by simpa using h)
    unfold zipK at ih ⊢
    rw [List.zip_cons_cons, List.map_cons, List.map_cons, ih]
    rfl
end
end L2
set_option Elab.async false
set_option linter.all false
set_option maxRecDepth 100000
set_option maxHeartbeats 4000000
namespace L2
open PySem PySem.Spec PyProof.Rows
section
variable {K : PySem.W.Frag} {H : Hp} {Q : VK}
theorem eqv_nm (xs ys : List Str) : PyData.eqv (nmD xs) (nmD ys) = decide (xs = ys) := by simp only [nmD, PyData.eqv, eqv_strsL]
end
end L2
set_option Elab.async false
set_option linter.all false
set_option maxRecDepth 100000
set_option maxHeartbeats 4000000
namespace L2
open PySem PySem.Spec PyProof.Rows
section
variable {ns ns' : List Str} {ps ps' bs : List (Str × Str)}
end
end L2
namespace L2
open PySem PySem.Spec PyProof.Rows
theorem cut_mid {xs : List V} {i j : Int} (h0 : 0 ≤ i) (h1 : i ≤ j) (h2 : j ≤ xs.length) : cutV xs (some i) (some j) = (xs.drop i.toNat).take (j.toNat - i.toNat) := by
  have e : HT.sIx xs.length 0 (some i) = i.toNat := by unfold HT.sIx; simp [show ¬ i < 0 by omega]; omega
  have e2 : HT.sIx xs.length xs.length (some j) = j.toNat := by unfold HT.sIx; simp [show ¬ j < 0 by omega]; omega
  unfold cutV
  rw [e, e2]
end L2
set_option Elab.async false
set_option linter.all false
set_option maxRecDepth 100000
set_option maxHeartbeats 4000000
namespace L2
open PySem PySem.Spec PyProof.Rows
noncomputable def sw (p : Str × Str) : Str × Str := (p.2, p.1)
section
variable {ns : List Str} {ps : List (Str × Str)}
end
end L2
set_option Elab.async false
set_option linter.all false
set_option maxRecDepth 100000
set_option maxHeartbeats 4000000
namespace L2
open PySem PySem.Spec PyProof.Rows
section
variable {P : Program} {w : World} {A : Around} {E : Value → Shared → Prop} {z : Shared}
end
section
variable {X : Cx} {K : PySem.W.Frag}
end
end L2
set_option Elab.async false
set_option linter.all false
set_option maxRecDepth 100000
set_option maxHeartbeats 4000000
namespace L2
open PySem PySem.Spec PyProof.Rows
section
variable {α : Type} [DecidableEq α] {b : α → α → Bool} {L : List α}
end
end L2
set_option Elab.async false
set_option linter.all false
set_option maxRecDepth 100000
set_option maxHeartbeats 4000000
namespace L2
open PySem PySem.Spec PyProof.Rows
end L2
set_option Elab.async false
set_option linter.all false
set_option maxRecDepth 100000
set_option maxHeartbeats 4000000
namespace L2
open PySem PySem.Spec PyProof.Rows
end L2
set_option Elab.async false
set_option linter.all false
set_option maxRecDepth 100000
set_option maxHeartbeats 4000000
namespace L2
open PySem PySem.Spec PyProof.Rows
noncomputable def rReprI : List V → Hp → VK → Prop := fun xs H Q => ∃ i : Int, xs = [.int i] ∧ i.natAbs.log2 < 1920 ∧ Q (.str (toString i)) H
theorem call_reprI {X : Cx} : CallR X (.builtin "repr") rReprI := by
  intro pins s σ H xs us Q I r h
  obtain ⟨i, rfl, hz, q⟩ := h
  obtain ⟨u, rfl, t, rfl⟩ := vals1 r
  exact PySem.P.repr_of_int hz ⟨.str _, H, I.tok _, ⟨_, rfl⟩, q⟩
theorem log_small {n : Nat} (h : n ≤ 3628800) : (((n : Nat) : Int).natAbs).log2 < 1920 := by
  rw [Int.natAbs_natCast]
  by_cases h0 : n = 0
  · subst h0; decide
  · exact Nat.lt_of_lt_of_le ((Nat.log2_lt h0).mpr (Nat.lt_of_le_of_lt h (show 3628800 < 2 ^ 22 by decide))) (show 22 ≤ 1920 by decide)
theorem i_reprI {n : Nat} {H : Hp} {Q : VK} (h : n ≤ 3628800) (k : Q (.str (toString ((n : Nat) : Int))) H) : rReprI [.int ((n : Nat) : Int)] H Q := ⟨_, rfl, log_small h, k⟩
end L2
set_option Elab.async false
set_option linter.all false
set_option maxRecDepth 100000
set_option maxHeartbeats 4000000
namespace L2
open PySem PySem.Spec PyProof.Rows
noncomputable def xB : List Value := [.type "ValueError", .type "Exception", .type "BaseException", .type "object"]
noncomputable def xcIn (K : PySem.W.Frag) (C : Addr) : Bool := match K.lookup C with
  | some ⟨.type "type", _, .cls cd, sl⟩ => (match cd.mro, sl.toList with
    | .ref D :: bm, [_, _, _, _, some (.builtin n), _] => D == C && n == "ValueError.__new__" && !cd.hasDel && cd.hasDict && PySem.W.tailIn K xB bm
    | _, _ => false)
  | _ => false
theorem xc_obj {K : PySem.W.Frag} {C : Addr} (q : xcIn K C = true) : ∃ (nm qn : Str) (N : Addr) (bs bm : List Value) (sn : List Str) (sub : List Value) (ab : Bool) (col : Option Bool) (dd : Option Addr) (k0 k1 k2 k3 k5 : Option Value),
    K.lookup C = some (excClassObj nm qn C N bs bm true sn sub ab col dd k0 k1 k2 k3 k5 "ValueError.__new__") ∧ PySem.W.tailIn K xB bm = true := by
  unfold xcIn at q
  split at q
  · rename_i dd cd sl ho
    split at q
    · rename_i D bm k0 k1 k2 k3 n k5 hm hs
      simp only [Bool.and_eq_true, beq_iff_eq, Bool.not_eq_true'] at q
      obtain ⟨⟨⟨⟨e1, e2⟩, hdel⟩, hdc⟩, ht⟩ := q
      subst e1 e2
      obtain ⟨nm, bs, mro, ns, qn, hd, sn, sub, ab, col, del⟩ := cd
      dsimp only at hm hdel hdc
      subst hm hdel hdc
      have e3 : sl = #[k0, k1, k2, k3, some (.builtin "ValueError.__new__"), k5] := by
        obtain ⟨l⟩ := sl
        simp only at hs
        rw [hs]
      subst e3
      exact ⟨nm, qn, ns, bs, bm, sn, sub, ab, col, dd, k0, k1, k2, k3, k5, ho, ht⟩
    · cases q
  · cases q
theorem xc_bex {h : Heap} {l : List Value} (T : OwnTail h xB l) : l.contains (.type "BaseException") = true := T.hasType (by decide +kernel)
section
variable {prog : Program} {w : World} {A : Around} {E : Value → Shared → Prop} {h : Heap} {g : Array GenState} {d : Drawn} {t : Nat} {os : OsState} {K : PySem.W.Frag} {C fI : Addr} {rest : List Value}
end
end L2
set_option Elab.async false
set_option linter.all false
set_option maxRecDepth 100000
set_option maxHeartbeats 4000000
namespace L2
open PySem PySem.Spec PyProof.Rows Builtin Builtin.ObjectAttr
structure XC (K : PySem.W.Frag) (C : Addr) : Prop where
  ex : xcIn K C = true
  sa : PySem.W.findIn K (.ref C) "__setattr__" = some (some (.builtin "object.__setattr__"))
  ga : PySem.W.findIn K (.ref C) "__getattribute__" = some (some (.builtin "BaseException.__getattribute__"))
  gt : PySem.W.findIn K (.ref C) "__getattr__" = some none
  cl : PySem.W.findIn K (.ref C) "__class__" = some (some (.builtin "object.__class__"))
  cg : PySem.W.specialIn K (.builtin "object.__class__") "__get__" = some (some (.builtin "getset_descriptor.__get__"))
  ct : PySem.W.takesIn K (.builtin "object.__class__") = some true
section
variable {prog : Program} {w : World} {A : Around} {E : Value → Shared → Prop} {s : Shared} {K : PySem.W.Frag} {C x : Addr} {name : Str} {v : Value}
theorem XC.cls (c : XC K C) : ∃ cd, PySem.W.clsIn K C = some cd ∧ cd.hasDict = true ∧ ∃ bm, cd.mro = .ref C :: bm ∧ PySem.W.tailIn K xB bm = true := by
  obtain ⟨nm, qn, N, bs, bm, sn, sub, ab, col, dd, k0, k1, k2, k3, k5, hl, htl⟩ := xc_obj c.ex
  exact ⟨_, by unfold PySem.W.clsIn; rw [hl], rfl, bm, rfl, htl⟩
theorem XC.mro (c : XC K C) {h : Heap} (X : K.In h) {T : String} (hT : xB.contains (.type T) = true) : PySem.W.mroIn K C (.type T) = some true := by
  obtain ⟨cd, hc, _, bm, hm, ht⟩ := c.cls
  unfold PySem.W.mroIn
  rw [hc, Option.bind_some, hm, if_neg (by simp)]
  rw [List.contains_cons, (PySem.W.tail_of_in X ht).hasType hT, Bool.or_true]
theorem xc_check {M : Model} {ox : Obj} {od : Option Obj} {nameV : Value} {Q : Unit → Shared → Prop} (c : XC K C) (X : K.In s.heap) (I : PySem.W.InstAt s.heap x ox C od) (hq : Q () s) :
    wpAny M A (checkBuiltinCall "BaseException.__getattribute__" ⟨[.ref x, nameV], []⟩) Q E s := by
  have sub : PySem.W.Looks M s.heap (isInstance (.ref x) (.type "BaseException")) true := I.type.andThen (PySem.W.looks_mroIn X (c.mro X (by decide +kernel)))
  exact @PySem.W.check_slot M _ _ s "BaseException.__getattribute__" "BaseException" "__getattribute__" (.ref x) [nameV] [] _ (by decide +kernel) (by decide +kernel) sub (PySem.F.args_bexc_ga (.ref x) nameV) hq
theorem xc_by {fill expr : Bool} {tk : Tok} {Q : Value → Shared → Prop} {ox : Obj} {od : Option Obj} (c : XC K C) (X : K.In s.heap) (I : PySem.W.InstAt s.heap x ox C od)
    (h : wpAny (model prog w) A.in1 (Builtin.«object.__getattribute__» ⟨[.ref x, .str name tk], []⟩)
      (fun fin s' => match fin with | .done (.ret v) => wpAny (model prog w) A (handedOut v) Q E s' | _ => False) (fun _ _ => False) s) : wpAny (model prog w) A (getAttrBy (.ref x) (.str name tk) fill expr) Q E s := by
  obtain ⟨hh, g, d, t, os⟩ := s
  have l0 := I.type (M := model prog w)
  have l1 := PySem.W.looks_findIn (M := model prog w) X c.ga
  have l2 := PySem.W.looks_findIn (M := model prog w) X c.gt
  have f3 := PySem.F.excAttr_ValueError.ga.bind (.ref x)
  have e2 : (Value.builtin "BaseException.__getattribute__" == Value.builtin "object.__getattribute__") = false := by decide +kernel
  unfold getAttrBy
  refine wpAny_holding (wpAny_bind (l0.at (wpAny_bind (l1.at ?_))))
  show wpAny _ _ (if (onTheHeap (Value.ref C) && Value.builtin "BaseException.__getattribute__" == Value.builtin "object.__getattribute__") = true then _ else _) _ _ _
  rw [e2, Bool.and_false, if_neg (by decide)]
  unfold getAttrByItsOwn hookBefore
  rw [if_pos (show onTheHeap (Value.ref C) = true from rfl)]
  refine wpAny_bind (l2.at (wpAny_bind (wpAny_attempt (wpAny_holding ?_))))
  unfold callGetattribute
  rw [if_neg (by cases expr <;> decide)]
  unfold boundAndCalled
  rw [f3]
  refine wpAny_bind (wpAny_pure (wpAny_call (codeAny_call_builtin PySem.F.excAttr_ValueError.ga.plain PySem.F.entry_bexc_ga (xc_check (s := ⟨hh, g, d, t, os⟩) c X I ?_))))
  refine wpAny_mono h (fun fin s' z => ?_) fun _ _ z => z.elim
  rcases fin with (_ | _ | _ | _) | _ <;> first | exact z | exact z.elim
theorem xc_class {Q : Option Value → Shared → Prop} {ox : Obj} {od : Option Obj} (c : XC K C) (X : K.In s.heap) (I : PySem.W.InstAt s.heap x ox C od) (h : Q (some (.ref C)) { s with toks := s.toks + 1 }) :
    wpAny (model prog w) A (getAttr? (.ref x) "__class__") Q E s := by
  obtain ⟨hh, g, d, t, os⟩ := s
  obtain ⟨cd, hc, hd, bm, hmr, htl⟩ := c.cls
  have l0 := I.type (M := model prog w)
  have hf : PySem.W.findObj K C od "__class__" = some (.bind (.builtin "getset_descriptor.__get__") (.builtin "object.__class__")) := by
    unfold PySem.W.findObj
    simp only [hc, c.cl, c.cg, c.ct, Option.bind_some]
  have l3 := PySem.W.looks_find (M := model prog w) X I hf
  unfold getAttr? getAttrBy?
  refine wpAny_bind (wpAny_mkText (wpAny_bind (wpAny_attempt ?_)))
  refine xc_by (s := ⟨hh, g, d, t + 1, os⟩) c X I ?_
  refine wpAny_bind (wpAny_pure (wpAny_bind (wpAny_pure (wpAny_bind (l0.at (wpAny_bind (l3.at ?_)))))))
  show wpAny _ _ (holding [Value.builtin "object.__class__"] (call (.builtin "getset_descriptor.__get__") [.builtin "object.__class__", .ref x, .ref C]) >>= ret) _ _ _
  refine wpAny_bind (wpAny_holding (wpAny_call (PySem.W.class_get (s := ⟨hh, g, d, t + 1, os⟩) (ox := ox) (od := od) X I (c.mro X (by decide +kernel)) ?_)))
  refine wpAny_pure ?_
  show wpAny _ _ (handedOut (.ref C)) _ _ _
  rw [PySem.W.handedOut_of rfl]
  exact wpAny_pure (wpAny_pure h)
theorem xc_kit {od : Option Obj} {ox : Obj} (c : XC K C) : PySem.W.KitX K (.ref x) (.ref C) (fun h => PySem.W.InstAt h x ox C od) where
  ty := fun _ _ _ I => I.type
  it := fun _ _ X _ => by
    obtain ⟨nm, qn, N, bs, bm, sn, sub, ab, col, dd, k0, k1, k2, k3, k5, hl, htl⟩ := xc_obj c.ex
    intro A' Q' E' s' k q
    unfold isType loadHead
    exact wpAny_bind (wpAny_loadPart (k _ _ (X _ _ hl)) (wpAny_pure q))
  ne := fun h tp dd its n sl X htp => by
    obtain ⟨nm, qn, N, bs, bm, sn, sub, ab, col, dd, k0, k1, k2, k3, k5, hl, htl⟩ := xc_obj c.ex
    refine Bool.eq_false_iff.mpr fun q => ?_
    have e : C = tp := Value.ref.inj (beq_iff_eq.mp q)
    subst e
    have z := congrArg Obj.cls (Option.some.inj ((X _ _ hl).symm.trans htp))
    exact absurd (Value.type.inj z) (by decide)
  ca := fun X I k => xc_class c X I k
end
end L2
set_option Elab.async false
set_option linter.all false
set_option maxRecDepth 100000
set_option maxHeartbeats 4000000
namespace L2
open PySem PySem.Spec PyProof.Rows
noncomputable def exG (n : Bool) (a C : Addr) (od : Option Addr) : HO := .ext fun h => ∃ vs sl, h.get? a = some ⟨.ref C, od, .fields vs, sl⟩ ∧ (n = true → vs[1]? = some .none)
noncomputable abbrev exO (a C : Addr) (od : Option Addr) : HO := exG true a C od
noncomputable def xdO (dx : Addr) (fs : List (Str × V)) : HO := .ext fun h => ∃ mA, h.Ns1 dx mA ∧ ∀ f, RelO (fs.lookup f) (mA f)
section
variable {P : Program} {w : World} {H : Hp} {h : Heap} {a C dx : Addr} {od : Option Addr} {fs : List (Str × V)}
theorem exG_ok {n : Bool} : ObjOk P w H h a (exG n a C od) ↔ ∃ vs sl, h.get? a = some ⟨.ref C, od, .fields vs, sl⟩ ∧ (n = true → vs[1]? = some .none) :=
  ⟨fun x => x.1, fun ⟨vs, sl, e, z⟩ => ⟨⟨vs, sl, e, z⟩, ⟨_, e⟩, fun h1 h2 ⟨vs, sl, e, z⟩ k => ⟨vs, sl, k _ e, z⟩⟩⟩
theorem exO_ok : ObjOk P w H h a (exO a C od) ↔ ∃ vs sl, h.get? a = some ⟨.ref C, od, .fields vs, sl⟩ ∧ (true = true → vs[1]? = some .none) := exG_ok
theorem xdO_ok : ObjOk P w H h dx (xdO dx fs) ↔ ∃ mA, h.Ns1 dx mA ∧ ∀ f, RelO (fs.lookup f) (mA f) :=
  ⟨fun x => x.1, fun ⟨mA, n, r⟩ => ⟨⟨mA, n, r⟩, (let ⟨o, _, _, e, _⟩ := n; ⟨o, e⟩), fun h1 h2 ⟨mA, n, r⟩ k => ⟨mA, (let ⟨o, es, ep, e, z⟩ := n; ⟨o, es, ep, k _ e, z⟩), r⟩⟩⟩
end
noncomputable def xcMro (K : PySem.W.Frag) (C B : Addr) : Bool := (PySem.W.clsIn K C).any fun cd => cd.mro == .ref C :: .ref B :: xB
section
variable {K : PySem.W.Frag} {C B D : Addr}
theorem XC.ty (c : XC K C) : PySem.W.typeIn K (.ref C) = some (.type "type") := by
  obtain ⟨nm, qn, N, bs, bm, sn, sub, ab, col, dd, k0, k1, k2, k3, k5, hl, htl⟩ := xc_obj c.ex
  show Option.map (fun x => x.cls) (List.lookup C K) = _
  rw [hl]
  rfl
theorem xc_kitR (c : XC K C) (hm : xcMro K C B = true) (d : XC K D) : PySem.W.kitOne K (.ref C) (.ref D) = some (C == D || D == B) := by
  unfold PySem.W.kitOne
  by_cases e : C = D
  · subst e; simp
  · have e1 : (Value.ref C == Value.ref D) = false := beq_eq_false_iff_ne.mpr fun q => e (Value.ref.inj q)
    have e2 : (C == D) = false := beq_eq_false_iff_ne.mpr e
    rw [if_neg (by rw [e1]; decide), e2, Bool.false_or]
    unfold PySem.W.kitCls
    obtain ⟨cd, hc, _⟩ := d.cls
    dsimp only
    rw [if_pos (by rw [hc, d.ty]; rfl)]
    show PySem.W.mroIn K C (.ref D) = _
    obtain ⟨cd, hc, hx⟩ := PySem.W.any_some hm
    unfold PySem.W.mroIn
    rw [hc, Option.bind_some, beq_iff_eq.mp hx, if_neg (by simp)]
    rw [List.contains_cons, List.contains_cons, show xB.contains (Value.ref D) = false from rfl, Bool.or_false]
    congr 1
    rw [show (Value.ref D == Value.ref C) = false from beq_eq_false_iff_ne.mpr fun q => e (Value.ref.inj q).symm, Bool.false_or]
    by_cases eb : D = B
    · subst eb; simp
    · rw [show (D == B) = false from beq_eq_false_iff_ne.mpr eb, beq_eq_false_iff_ne.mpr fun q => eb (Value.ref.inj q)]
end
section
variable {X : Cx} {pins : List (Addr × Obj)} {σ : St} {H : Hp} {s : Shared} {a C dx : Addr} {fs : List (Str × V)} {f : Str} {v : V} {A : Around} {E : Value → Shared → Prop}
end
section
variable {X : Cx} {o e value : Expr} {f : Str} {pos pos' tpos : Pos} {ta tv : TE}
end
end L2
set_option Elab.async false
set_option linter.all false
set_option maxRecDepth 100000
set_option maxHeartbeats 4000000
namespace L2
open PySem PySem.Spec PyProof.Rows
noncomputable def ExB (n : Bool) (H : Hp) (a C : Addr) (fs : List (Str × V)) : Prop := (fs = [] ∧ H a = some (exG n a C none)) ∨ ∃ dx, dx ≠ a ∧ H a = some (exG n a C (some dx)) ∧ H dx = some (xdO dx fs)
noncomputable abbrev ExA (H : Hp) (a C : Addr) (fs : List (Str × V)) : Prop := ExB true H a C fs
theorem ExB.inst {n : Bool} {P : Program} {w : World} {H : Hp} {h : Heap} {a C : Addr} {fs : List (Str × V)} (e : ExB n H a C fs) (x : HOk P w H h) : ∃ ox od, PySem.W.InstAt h a ox C od := by
  rcases e with ⟨_, e⟩ | ⟨dx, _, e, d⟩
  · obtain ⟨vs, sl, q, _⟩ := exG_ok.mp (x a _ e)
    exact ⟨_, none, q, rfl, rfl, True.intro⟩
  · obtain ⟨vs, sl, q, _⟩ := exG_ok.mp (x a _ e)
    obtain ⟨mA, hn, _⟩ := xdO_ok.mp (x dx _ d)
    obtain ⟨o, _, _, ho, _⟩ := hn
    exact ⟨_, some o, q, rfl, rfl, ho⟩
theorem ExB.same {n : Bool} {H H' : Hp} {a C : Addr} {fs : List (Str × V)} (e : ExB n H a C fs) (s : ∀ b o, H b = some o → H' b = some o) : ExB n H' a C fs := by
  rcases e with ⟨e1, e⟩ | ⟨dx, ne, e, d⟩
  · exact .inl ⟨e1, s _ _ e⟩
  · exact .inr ⟨dx, ne, s _ _ e, s _ _ d⟩
noncomputable def rIsX (K : PySem.W.Frag) : List V → Hp → VK → Prop := fun xs H Q => ∃ n a C fs b, ExB n H a C fs ∧ XC K C ∧
  ((∃ c, xs = [.ref a, .ref c] ∧ PySem.W.kitOne K (.ref C) (.ref c) = some b) ∨ (∃ c, xs = [.ref a, .ty c] ∧ PySem.W.kitOne K (.ref C) (.type c) = some b) ∨
    ∃ (p : Addr) (cs : List Addr), xs = [.ref a, .ref p] ∧ H p = some (.tup (cs.map V.ref)) ∧ PySem.W.kitAny K (.ref C) (cs.map Value.ref) = some b) ∧ Q (.bl b) H
theorem vals_refs : ∀ {cs : List Addr} {us : List Value}, Vals (cs.map V.ref) us → us = cs.map Value.ref
  | [], us, r => by cases us with | nil => rfl | cons _ _ => cases r
  | c :: cs, us, r => by
    cases us with
    | nil => cases r
    | cons u us =>
      cases r with
      | cons r1 r2 => rw [List.map_cons, vals_refs r2, show u = Value.ref c from r1]
theorem call_isX {X : Cx} : CallR X (.builtin "isinstance") (rIsX X.K) := by
  intro pins s σ H xs us Q I r h
  obtain ⟨n, a, C, fs, b, ea, c, hc, q⟩ := h
  obtain ⟨ox, od, J⟩ := ea.inst I.hok
  rcases hc with ⟨c', rfl, e⟩ | ⟨c', rfl, e⟩ | ⟨p, cs, rfl, hp, e⟩
  · obtain ⟨u, w', rfl, r1, r2⟩ := vals2 r
    cases r1; cases r2
    exact PySem.W.kia_one (xc_kit c) I.kIn J e (fun z => nomatch z) fun tk => ⟨.bl _, H, I.tok _, rfl, q⟩
  · obtain ⟨u, w', rfl, r1, r2⟩ := vals2 r
    cases r1; cases r2
    exact PySem.W.kia_one (xc_kit c) I.kIn J e (fun z => nomatch z) fun tk => ⟨.bl _, H, I.tok _, rfl, q⟩
  · obtain ⟨u, w', rfl, r1, r2⟩ := vals2 r
    cases r1; cases r2
    obtain ⟨_, its, ri, ob, g1, g2, ⟨n, g3⟩, g4⟩ := (show ObjOk X.prog X.w H s.heap p (.tup (cs.map V.ref)) from I.hok p _ hp)
    obtain rfl := vals_refs ri
    obtain ⟨oc, odd, oda, osl⟩ := ob
    dsimp only at g2 g3 g4
    subst g2 g3 g4
    exact PySem.W.kia_tup (xc_kit c) I.kIn J g1 e (fun z => nomatch z) fun tk => ⟨.bl _, H, I.tok _, rfl, q⟩
theorem call_isXK {X : Cx} {K : PySem.W.Frag} (hK : X.K = K := by with_unfolding_all rfl) : CallR X (.builtin "isinstance") (rIsX K) := hK ▸ call_isX
noncomputable def xc0In (K : PySem.W.Frag) (C : Addr) : Bool := match K.lookup C with
  | some ⟨_, _, .cls cd, _⟩ => PySem.W.nsOkIn K cd.ns && PySem.W.nsIn K cd.ns "__init__" == some none
  | _ => false
structure Mkx0 (K : PySem.W.Frag) (mg : Str → Option Value) (C : Addr) (x : Str) : Prop where
  xc : XC K C
  no : xc0In K C = true
  kp : PySem.W.keepIn K (.ref C) = true
  gl : mg x = some (.ref C)
noncomputable def rMkX0 (C : Addr) (vs : List V) (H1 : Hp) (Q : VK) : Prop := vs.length ≤ 8 ∧ ∀ x, H1 x = none → Q (.ref x) (upd H1 x (exO x C none))
noncomputable def tMkX0 (C : Addr) (t : TA) : TE := fun σ H Q => t σ H fun vs H1 => rMkX0 C vs H1 Q
theorem hp_none {P : Program} {w : World} {H : Hp} {h : Heap} {a : Addr} (x : HOk P w H h) (n : h.get? a = none) : H a = none := by
  cases q : H a with
  | none => rfl
  | some o =>
    have t : ∀ o, ObjOk P w H h a o → ∃ u, h.get? a = some u := fun o z => by
      cases o with
      | lst xs => obtain ⟨_, _, _, _, e⟩ := z; exact ⟨_, e⟩
      | tup xs => obtain ⟨_, _, _, _, e, _⟩ := z; exact ⟨_, e⟩
      | dK kvs => obtain ⟨_, _, _, _, o, _, _, e, _⟩ := z; exact ⟨_, e⟩
      | dT kvs => obtain ⟨_, _, _, _, o, _, _, e, _⟩ := z; exact ⟨_, e⟩
      | set S n => obtain ⟨o, _, _, _, e, _⟩ := z; exact ⟨_, e⟩
      | ins C dx fs => obtain ⟨_, _, _, e, _⟩ := z; exact ⟨_, e⟩
      | own y => obtain ⟨_, e⟩ := z; exact ⟨_, e⟩
      | xd fs => obtain ⟨_, ⟨_, _, _, e, _⟩, _⟩ := z; exact ⟨_, e⟩
      | rng lo hi => obtain ⟨_, _, _, e⟩ := z; exact ⟨_, e⟩
      | frz ob u => obtain ⟨e, _⟩ := z; exact ⟨_, e⟩
      | tbl ps => exact ⟨_, z⟩
      | met f y => exact ⟨_, z⟩
      | ext φ => obtain ⟨_, e, _⟩ := z; exact e
    obtain ⟨u, e⟩ := t o (x a o q)
    rw [n] at e; cases e
theorem Inv.laidN {X : Cx} {pins : List (Addr × Obj)} {σ : St} {H : Hp} {s : Shared} {h' : Heap} {a : Addr} {o : HO} {t' : Nat} (I : Inv X pins σ H s) (k : ∀ b u, s.heap.get? b = some u → h'.get? b = some u) (n : s.heap.get? a = none)
    (new : ObjOk X.prog X.w (upd H a o) h' a o) : Inv X pins σ (upd H a o) { s with heap := h', toks := t' } := by
  have hn := hp_none I.hok n
  have nb : ∀ b u, s.heap.get? b = some u → b ≠ a := fun b u q z => by rw [z, n] at q; cases q
  have nh : ∀ b u, H b = some u → upd H a o b = some u := fun b u q => by rw [upd_ne fun z => by rw [z, hn] at q; cases q]; exact q
  refine I.un ⟨fun b u q _ _ _ => k b u q, fun b u q _ _ _ => ⟨u.slots, k b u q⟩, fun b u q z _ => by rw [upd_ne (nb b u q)]; exact z, fun b u q _ => ⟨u, k b u q⟩, fun b xs q => nh b _ q, fun b ob u q => nh b _ q, fun b ps q => ⟨#[], by rw [Array.append_empty]; exact nh b _ q⟩⟩ fun b u q => ?_
  by_cases z : b = a
  · subst z; rw [upd_same] at q; cases q; exact new
  · rw [upd_ne z] at q
    exact (I.hok b u q).stay (fun c v _ r => k c v r) (fun c r => nh c _ r) fun c xs r => nh c _ r
section
variable {X : Cx} {k : Nat} {f C : Addr} {fd : FuncData} {ps : List Str} {sp : Sp} {x : Str} {p pos : Pos} {e : Expr} {es : List Expr} {t : TA} {pins : List (Addr × Obj)} {σ : St} {H : Hp} {s : Shared} {Q : VK} {us : List Value} {vs : List V}
theorem run_mkx0 (M : Mkx0 X.K X.mg C x) (I : Inv X pins σ H s) (r : Vals vs us) (hz : vs.length ≤ 8) (h : ∀ x, H x = none → Q (.ref x) (upd H x (exO x C none))) :
    wpAny (model X.prog X.w) X.A (call (.ref C) us) (EP X pins σ Q) X.xe s := by
  obtain ⟨nm, qn, N, bs, bm, sn, sub, ab, col, dd, k0, k1, k2, k3, k5, hl, htl⟩ := xc_obj M.xc.ex
  have hno := M.no
  unfold xc0In at hno
  rw [hl] at hno
  simp only [Bool.and_eq_true, beq_iff_eq] at hno
  obtain ⟨hh, g, d, tk, os⟩ := s
  have Xn : X.K.In hh := I.kIn
  refine wpAny_call_exc_subT PySem.F.excBase_ValueError (PySem.W.tail_of_in Xn htl) (Xn _ _ hl) (.of_isNs (PySem.W.isNs_of_in Xn hno.1)) (PySem.W.nsMap_none_of_in Xn hno.1 hno.2) (fun h' e m => ?_) (by rw [← r.length, sizeLine_eq]; omega)
  obtain ⟨t0, he, _⟩ := m.there
  exact ⟨.ref e, upd H e (exO e C none), I.laidN (t' := tk) m.keeps m.new (exO_ok.mpr ⟨_, _, he, fun _ => rfl⟩), rfl, h e (hp_none I.hok m.new)⟩
theorem pe_xmk0 (M : Mkx0 X.K X.mg C x) (hg : Gl X x) (ha : PA X (e :: es) t) (hdb : (x == ("__debug__" : Str)) = false := by decide)
    (he : starEach (e :: es) X.env = (false, eval e X.env) :: starEach es X.env := by with_unfolding_all rfl) (hpl : (backTo pos (starEach es X.env)).any (·.1) = false := by with_unfolding_all rfl) :
    PE X (.Call (.Name x p) (e :: es) [] pos) (tMkX0 C t) := by
  intro pins s σ H Q I h
  refine wpAny_Call_Name_kw (ld_glob I hg M.gl ?_ hdb)
  refine PySem.W.callWith_K (h₀ := X.base) I.ok.mod.kin M.kp (thn (ha pos pins s σ H _ I h) fun us s1 ⟨vs, H1, I1, r, z, q⟩ => ⟨I1.kIn, ?_⟩) he hpl
  exact run_mkx0 M I1 r z q
end
end L2
set_option Elab.async false
set_option linter.all false
set_option maxRecDepth 100000
set_option maxHeartbeats 4000000
namespace L2
open PySem PySem.Spec PyProof.Rows
section
variable {X : Cx} {K : PySem.W.Frag} {o e value : Expr} {f : Str} {pos pos' : Pos} {ta tv : TE}
end
section
variable {K : PySem.W.Frag} {σ : St} {H : Hp} {Q : VK} {D : Ends} {f : Str} {ta tv : TE} {t : TA} {sp : Sp} {C a dx B G : Addr} {fs : List (Str × V)} {v y : V} {R : Hp → Prop} {vs : List V}
theorem i_mkX0 (hz : vs.length ≤ 8) (k : ∀ x H', H x = none → Same H H' → ExA H' x C [] → Q (.ref x) H') : rMkX0 C vs H Q :=
  ⟨hz, fun x hx => k x _ hx (fun b u q => by rw [upd_ne (ne_of_none q hx)]; exact q) (.inl ⟨rfl, upd_same⟩)⟩
theorem i_isX {n' b : Bool} (h : ExB n' H a C fs) (c : XC K C) (e : PySem.W.kitOne K (.ref C) (.ref G) = some b) (k : Q (.bl b) H) : rIsX K [.ref a, .ref G] H Q := ⟨n', a, C, fs, b, h, c, .inl ⟨G, rfl, e⟩, k⟩
theorem i_isXT {n' b : Bool} {T : String} (h : ExB n' H a C fs) (c : XC K C) (e : PySem.W.kitOne K (.ref C) (.type T) = some b) (k : Q (.bl b) H) : rIsX K [.ref a, .ty T] H Q := ⟨n', a, C, fs, b, h, c, .inr (.inl ⟨T, rfl, e⟩), k⟩
end
theorem xc_kitM {K : PySem.W.Frag} {C B : Addr} (hm : xcMro K C B = true) : PySem.W.kitOne K (.ref C) (.type "ValueError") = some true := by
  obtain ⟨cd, hc, hx⟩ := PySem.W.any_some hm
  unfold PySem.W.kitOne
  rw [if_neg (by rw [beq_eq_false_iff_ne.mpr (by intro q; cases q)]; decide)]
  unfold PySem.W.kitCls
  dsimp only
  rw [if_pos (by decide +kernel)]
  show PySem.W.mroIn K C _ = _
  unfold PySem.W.mroIn
  rw [hc, Option.bind_some, beq_iff_eq.mp hx, if_neg (by simp), List.contains_cons, List.contains_cons, show xB.contains (Value.type "ValueError") = true by decide +kernel, Bool.or_true, Bool.or_true]
end L2
set_option Elab.async false
set_option linter.all false
set_option maxRecDepth 100000
set_option maxHeartbeats 4000000
namespace L2
open PySem PySem.Spec PyProof.Rows
structure Lft (fs : List Addr) (a : Addr) (oe : Obj) (old : List Addr) (h h' : Heap) : Prop where
  keep : ∀ b o, b ∉ fs → b ≠ a → b ∉ old → h.get? b = some o → h'.get? b = some o
  slot : ∀ b o, b ∈ fs → h.get? b = some o → ∃ sl, h'.get? b = some { o with slots := sl }
  there : ∀ b o, h.get? b = some o → ∃ o', h'.get? b = some o'
  tr : ∃ oe' vs T oT ts, h'.get? a = some oe' ∧ oe'.cls = oe.cls ∧ oe'.dict = oe.dict ∧ oe'.slots = oe.slots ∧ oe'.data = .fields vs ∧ vs[1]? = some (.ref T) ∧ T ≠ a ∧ h.get? T = none ∧ h'.get? T = some oT ∧ oT.data = .fields ts ∧ ts[3]? = some .none
section
variable {M : Model} {A : Around} {E : Value → Shared → Prop} {s : Shared} {base : Heap} {env : Env} {outer : List Env} {L a : Addr} {oe : Obj} {vs : Array Value} {Q : Unit → Shared → Prop}
theorem mapF_dict (o : Obj) (g : Array Value → Array Value) : (o.mapFields g).dict = o.dict ∧ (o.mapFields g).slots = o.slots ∧ (o.mapFields g).cls = o.cls := by
  obtain ⟨c, d, dt, sl⟩ := o
  cases dt <;> exact ⟨rfl, rfl, rfl⟩
theorem lv_entry {head : Value} {hadNext : Bool} (hfr : A.frames = some (env :: outer)) (hl : s.heap.FunFrames base (env :: outer)) (hf : env.frame = some L) (he : s.heap.get? a = some oe) (hd : oe.data = .fields vs) (hsz : 1 < vs.size)
    (h : ∀ h', Lft (frs (env :: outer)) a oe [] s.heap h' → Q () { s with heap := h' }) :
    wpAny M A (do let x ← frameOf env; let pl ← entryPlaceOf L hadNext; let b ← EntryCells.newEntry head x .none (rawInt L) .none pl; setField (.ref a) 1 b) (fun _ s' => wpAny M A (setFlight (.ref a) none) Q E s') E s := by
  have ha : a ∉ frs (env :: outer) := fun hm => by
    obtain ⟨_, o, ho, hnf⟩ := hl.mem hm
    rw [he] at ho; cases ho; exact hnf vs hd
  refine wpAny_bind (wpAny_frameOf_fun hfr hl hf fun h1 k1 => ?_)
  refine wpAny_bind (wpAny_entryPlaceOf fun pl hpl => ?_)
  unfold EntryCells.newEntry newFields
  refine wpAny_bind (wpAny_newObj_type ?_ (hpl.sizeOk5 _ _ _ _ _))
  generalize hob : (Obj.mk (Value.type "traceback") none (Data.fields ([head, Value.ref L, Value.none, rawInt L, Value.none] ++ (if pl.isEmpty then List.replicate 6 Value.none else pl)).toArray) #[] : Obj) = ob
  have obd : ob.data = .fields ([head, Value.ref L, Value.none, rawInt L, Value.none] ++ (if pl.isEmpty then List.replicate 6 Value.none else pl)).toArray := by rw [← hob]
  have hob2 : ob.isFreed = false := Obj.isFreed_of_fields obd
  have he1 : h1.get? a = some oe := (k1.2.1 a ha).trans he
  have he2 := Heap.get?_push_of_some (h := h1) ob he1
  refine wpAny_setField he2 hd hsz ?_
  have hTe : h1.objs.size ≠ a := Nat.ne_of_gt (Heap.lt_size he1)
  have d3 := Obj.data_mapFields hd (·.setIfInBounds 1 (Value.ref h1.objs.size))
  have he3 := Heap.get?_update_self (Obj.mapFields (·.setIfInBounds 1 (Value.ref h1.objs.size))) he2 (Obj.isFreed_of_fields d3)
  have hT3 := (Heap.get?_update_other (h1.push ob) (Obj.mapFields (·.setIfInBounds 1 (Value.ref h1.objs.size))) (Ne.symm hTe)).trans (Heap.get?_push_size h1 hob2)
  unfold setFlight
  refine wpAny_bind (wpAny_field he3 d3 (x := .ref h1.objs.size) (by simp [hsz]) ?_)
  rw [if_pos (show (Value.ref h1.objs.size != Value.none) = true from by simp)]
  refine wpAny_setField hT3 obd (by simp only [List.size_toArray, List.length_append, List.length_cons, List.length_nil] <;> omega) (h _ ?_)
  have kp : ∀ b o, b ≠ a → h1.get? b = some o → (((h1.push ob).update a (Obj.mapFields (·.setIfInBounds 1 (Value.ref h1.objs.size)))).update h1.objs.size (Obj.mapFields (·.setIfInBounds 3 ((none : Option Addr).elim Value.none fun f => rawInt f)))).get? b = some o := fun b o hbe hb => by
    rw [Heap.get?_update_other _ _ (Nat.ne_of_gt (Heap.lt_size hb)), Heap.get?_update_other _ _ (Ne.symm hbe)]
    exact Heap.get?_push_of_some _ hb
  have hea := (Heap.get?_update_other _ (Obj.mapFields (·.setIfInBounds 3 ((none : Option Addr).elim Value.none fun f => rawInt f))) hTe).trans he3
  refine ⟨fun b o hb hba _ q => kp b o hba ((k1.2.1 b hb).trans q), fun b o hb q => ?_, fun b o q => ?_, ?_⟩
  · obtain ⟨sl, z⟩ := k1.2.2 b o q
    exact ⟨sl, kp b _ (fun w => ha (w ▸ hb)) z⟩
  · by_cases w : b = a
    · subst w; exact ⟨_, hea⟩
    · obtain ⟨sl, z⟩ := k1.2.2 b o q
      exact ⟨_, kp b _ w z⟩
  · obtain ⟨m1, m2, m3⟩ := mapF_dict oe (·.setIfInBounds 1 (Value.ref h1.objs.size))
    refine ⟨_, _, h1.objs.size, _, _, hea, m3, m1, m2, d3, by simp [hsz], hTe, Heap.get?_none_of_le (by rw [k1.1]; exact Nat.le_refl _), Heap.get?_update_self _ hT3 (Obj.isFreed_of_fields (Obj.data_mapFields obd _)), Obj.data_mapFields obd _, ?_⟩
    rcases hpl with rfl | ⟨_, _, _, _, _, _, _, rfl⟩ <;> simp
theorem lv_first (hfr : A.frames = some (env :: outer)) (hl : s.heap.FunFrames base (env :: outer)) (hf : env.frame = some L) (he : s.heap.get? a = some oe) (hd : oe.data = .fields vs) (h1 : vs[1]? = some .none)
    (h : ∀ h', Lft (frs (env :: outer)) a oe [] s.heap h' → Q () { s with heap := h' }) : wpAny M A (leaving env (.ref a)) Q E s := by
  unfold leaving noteFrame
  simp only [hf]
  refine wpAny_bind (wpAny_bind (wpAny_field he hd h1 ?_))
  rw [if_neg (by decide)]
  exact lv_entry hfr hl hf he hd (Array.getElem?_eq_some_iff.mp h1).1 h
theorem lv_nextS {T : Addr} {oT : Obj} {ts : Array Value} (hfr : A.frames = some (env :: outer)) (hl : s.heap.FunFrames base (env :: outer)) (hf : env.frame = some L) (he : s.heap.get? a = some oe) (hd : oe.data = .fields vs) (h1 : vs[1]? = some (.ref T))
    (hTe : T ≠ a) (hT : s.heap.get? T = some oT) (hdT : oT.data = .fields ts) (h3 : ts[3]? = some .none)
    (h : ∀ h', Lft (frs (env :: outer)) a oe [T] s.heap h' → Q () { s with heap := h' }) : wpAny M A (noteFrame (.ref a) env) (fun _ s' => wpAny M A (setFlight (.ref a) none) Q E s') E s := by
  unfold noteFrame
  simp only [hf]
  refine wpAny_bind (wpAny_field he hd h1 ?_)
  rw [if_pos (show (Value.ref T != Value.none) = true from by simp)]
  refine wpAny_bind (wpAny_field hT hdT h3 ?_)
  rw [if_neg (show ¬ ((Value.none == rawInt L) = true) from by simp [rawInt])]
  refine wpAny_bind (wpAny_setField hT hdT (Array.getElem?_eq_some_iff.mp h3).1 ?_)
  have ot : ∀ b, b ≠ T → (s.heap.update T (Obj.mapFields (·.setIfInBounds 3 Value.none))).get? b = s.heap.get? b := fun b hb => Heap.get?_update_other _ _ (Ne.symm hb)
  have tt := Heap.get?_update_self (Obj.mapFields (·.setIfInBounds 3 Value.none)) hT (Obj.isFreed_of_fields (Obj.data_mapFields hdT _))
  have nT : ∀ b o, s.heap.get? b = some o → (∀ us, o.data ≠ .fields us) → b ≠ T := fun b o hb hnf q => by
    rw [q, hT] at hb; cases hb; exact hnf ts hdT
  have fT : T ∉ frs (env :: outer) := fun hm => by
    obtain ⟨_, o, ho, hnf⟩ := hl.mem hm
    exact nT T o ho hnf rfl
  refine lv_entry (hl := hl.of_keeps fun b o hb hnf => ⟨o, (ot b (nT b o hb hnf)).trans hb, rfl⟩) hfr hf ((ot a (Ne.symm hTe)).trans he) hd (Array.getElem?_eq_some_iff.mp h1).1 fun h' l => h h' ?_
  obtain ⟨x1, x2, x3, oe', us, T', oT', ts', q1, q2, q3, q4, q5, q6, q7, q8, q9⟩ := l
  refine ⟨fun b o hb hba hbt q => x1 b o hb hba (by simp) ((ot b fun z => hbt (by simp [z])).trans q), fun b o hb q => x2 b o hb ((ot b fun z => fT (z ▸ hb)).trans q), fun b o q => ?_, oe', us, T', oT', ts', q1, q2, q3, q4, q5, q6, q7, ?_, q9⟩
  · by_cases z : b = T
    · subst z; exact x3 _ _ tt
    · exact x3 b o ((ot b z).trans q)
  · by_cases z : T' = T
    · rw [z, tt] at q8; cases q8
    · rw [← ot T' z]; exact q8
theorem lv_next {T : Addr} {oT : Obj} {ts : Array Value} (hfr : A.frames = some (env :: outer)) (hl : s.heap.FunFrames base (env :: outer)) (hf : env.frame = some L) (he : s.heap.get? a = some oe) (hd : oe.data = .fields vs) (h1 : vs[1]? = some (.ref T))
    (hTe : T ≠ a) (hT : s.heap.get? T = some oT) (hdT : oT.data = .fields ts) (h3 : ts[3]? = some .none)
    (h : ∀ h', Lft (frs (env :: outer)) a oe [T] s.heap h' → Q () { s with heap := h' }) : wpAny M A (leaving env (.ref a)) Q E s := by
  unfold leaving
  exact wpAny_bind (lv_nextS hfr hl hf he hd h1 hTe hT hdT h3 h)
end
end L2
set_option Elab.async false
set_option linter.all false
set_option maxRecDepth 100000
set_option maxHeartbeats 4000000
namespace L2
open PySem PySem.Spec PyProof.Rows
noncomputable def Tra (a : Addr) (H' : Hp) (h0 h : Heap) : Prop := ∃ oe vs T oT ts, h.get? a = some oe ∧ oe.data = .fields vs ∧ vs[1]? = some (.ref T) ∧ T ≠ a ∧ h.get? T = some oT ∧ oT.data = .fields ts ∧ ts[3]? = some .none ∧ H' T = none ∧ h0.get? T = none
noncomputable def CX1 (P : Program) (w : World) : CXT := fun outer H s E e s' => ∃ a C od H', e = .ref a ∧ s'.os = s.os ∧ AllBare s'.gens ∧ Un (frs outer) [] H H' s.heap s'.heap ∧ HOk P w H' s'.heap ∧ H' a = some (exG false a C od) ∧ s.heap.get? a = none ∧ Tra a H' s.heap s'.heap ∧ E (.ref a) none H'
section
variable {P : Program} {w : World} {fs : List Addr} {a C : Addr} {od : Option Addr} {oe : Obj} {old : List Addr} {h h' : Heap} {H : Hp} {n : Bool}
theorem Lft.hok (l : Lft fs a oe old h h') (ok : HOk P w H h) (he : h.get? a = some oe) (ha : H a = some (exG n a C od)) (hfs : ∀ b ∈ fs, H b = none) (hold : ∀ b ∈ old, H b = none) : HOk P w (upd H a (exG false a C od)) h' := fun b u q => by
  have hu : ∀ c z, H c = some z → c ≠ a → upd H a (exG false a C od) c = some z := fun c z r ne => by rw [upd_ne ne]; exact r
  by_cases hb : b = a
  · subst hb
    rw [upd_same] at q; cases q
    obtain ⟨vs, sl, e1, _⟩ := exG_ok.mp (ok b _ ha)
    rw [he] at e1; cases e1
    obtain ⟨oe', us, T, oT, ts, q1, q2, q3, q4, q5, _⟩ := l.tr
    obtain ⟨c, d, dt, s4⟩ := oe'
    dsimp only at q2 q3 q4 q5
    subst q2 q3 q4 q5
    exact exG_ok.mpr ⟨us, _, q1, fun z => Bool.noConfusion z⟩
  · rw [upd_ne hb] at q
    refine (ok b u q).stay (fun c v hc r => ?_) (fun c r => hu c _ r fun z => ?_) fun c xs r => hu c _ r fun z => ?_
    · have hcn : ∃ z, H c = some z := by
        rcases hc with hc | hc
        · exact ⟨u, hc ▸ q⟩
        · exact ⟨_, hc⟩
      obtain ⟨z, hz⟩ := hcn
      refine l.keep c v (fun m => by rw [hfs c m] at hz; cases hz) (fun e => ?_) (fun m => by rw [hold c m] at hz; cases hz) r
      subst e
      rcases hc with hc | hc
      · exact hb hc.symm
      · rw [ha] at hc; cases hc
    · rw [z, ha] at r; cases r
    · rw [z, ha] at r; cases r
end
section
variable {P : Program} {w : World} {K : PySem.W.Frag} {mg : Str → Option Value} {base : Heap} {N : List Str} {qual : Str} {scope : Scope} {f : Addr} {cd : Value} {A : Around} {outer : List Env} {s₀ : Shared} {H₀ : Hp} {E : XK}
theorem fun_un {h h' : Heap} : ∀ {l : List Env}, h.FunFrames base l → (∀ b ∈ frs l, ∀ o, h.get? b = some o → ∃ sl, h'.get? b = some { o with slots := sl }) → h'.FunFrames base l
  | [], _, _ => True.intro
  | env :: r, hl, k => by
    obtain ⟨hk, ⟨L, o, hf, hn, ho, hd⟩, hr⟩ := hl
    have e : frs (env :: r) = L :: frs r := by unfold frs; rw [List.filterMap_cons, hf]
    obtain ⟨sl, z⟩ := k L (by rw [e]; exact List.mem_cons_self) o ho
    exact ⟨hk, ⟨L, _, hf, hn, z, hd⟩, fun_un hr fun b hb => k b (by rw [e]; exact List.mem_cons_of_mem _ hb)⟩
theorem lv_cx {CX : CXT} {pins : List (Addr × Obj)} {σ : St} {H1 H2 : Hp} {s1 s2 : Shared} {h3 : Heap} {a C : Addr} {od : Option Addr} {oe : Obj} {old : List Addr} {n : Bool} (I : Inv (cxOf CX P w K mg base N qual scope f cd A outer s₀ H₀ E) pins σ H1 s1)
    (os : s2.os = s1.os) (bare : AllBare s2.gens) (un : Un (frs (envOfC qual scope s₀.heap.objs.size f cd :: outer)) [] H1 H2 s1.heap s2.heap) (ok : HOk P w H2 s2.heap) (ha : H2 a = some (exG n a C od)) (he : s2.heap.get? a = some oe) (hn : s₀.heap.get? a = none) (hold : ∀ b ∈ old, H2 b = none ∧ s₀.heap.get? b = none)
    (l : Lft (frs (envOfC qual scope s₀.heap.objs.size f cd :: outer)) a oe old s2.heap h3) (q : E (.ref a) none (upd H2 a (exG false a C od))) :
    CX1 P w outer H₀ s₀ E (.ref a) { s2 with heap := h3 } := by
  have stk : ∀ b ∈ frs (envOfC qual scope s₀.heap.objs.size f cd :: outer), b = s₀.heap.objs.size ∨ b ∈ frs outer := fun b hb => by
    rcases List.mem_cons.mp (I.stkSub b hb) with z | z
    · exact .inl z
    · exact .inr z
  have fr2 : ∀ b ∈ frs (envOfC qual scope s₀.heap.objs.size f cd :: outer), H2 b = none := fun b hb => by
    obtain ⟨_, o, ho, _⟩ := I.stack.mem hb
    exact un.free b o ho (I.stkFree b hb) (by simp)
  obtain ⟨oe', us, T, oT, ts, q1, q2, q3, q4, q5, q6, q7, q8, q9, q10, q11⟩ := l.tr
  have nl : ∀ b o, s₀.heap.get? b = some o → b ≠ s₀.heap.objs.size := fun b o z => Nat.ne_of_lt (Heap.lt_size z)
  have na : ∀ b o, s₀.heap.get? b = some o → b ≠ a := fun b o z e => by rw [e, hn] at z; cases z
  have no : ∀ b o, s₀.heap.get? b = some o → b ∉ old := fun b o z e => by rw [(hold b e).2] at z; cases z
  have tn : H2 T = none := hp_none ok q8
  have t0 : s₀.heap.get? T = none := by
    cases z : s₀.heap.get? T with
    | none => rfl
    | some o =>
      obtain ⟨o1, z1⟩ := I.base.there T o z (by intro m; cases m)
      obtain ⟨o2, z2⟩ := un.there T o1 z1 (by simp)
      rw [q8] at z2; cases z2
  have hu : ∀ c z, H2 c = some z → z ≠ exG n a C od → upd H2 a (exG false a C od) c = some z := fun c z r ne => by rw [upd_ne fun e => ne (by rw [e, ha] at r; exact (Option.some.inj r).symm)]; exact r
  refine ⟨a, C, od, upd H2 a (exG false a C od), rfl, os.trans I.os, bare, ⟨fun b o z nz hb _ => ?_, fun b o z nz hb _ => ?_, fun b o z nz _ => ?_, fun b o z _ => ?_, fun b xs z => ?_, fun b o u z => ?_, fun b ps z => ?_⟩, l.hok ok he ha fr2 (fun b m => (hold b m).1), upd_same, hn, ⟨oe', us, T, oT, ts, q1, q5, q6, q7, q9, q10, q11, by rw [upd_ne q7]; exact tn, t0⟩, q⟩
  · have z1 := I.base.keep b o z nz hb (by intro m; cases m)
    have n1 := I.base.free b o z nz (by intro m; cases m)
    have hb2 : b ∉ frs (envOfC qual scope s₀.heap.objs.size f cd :: outer) := fun m => (stk b m).elim (nl b o z) hb
    exact l.keep b o hb2 (na b o z) (no b o z) (un.keep b o z1 n1 hb2 (by simp))
  · obtain ⟨sl, z1⟩ := I.base.slot b o z nz hb (by intro m; cases m)
    have n1 := I.base.free b o z nz (by intro m; cases m)
    obtain ⟨sl2, z2⟩ := un.any z1 n1 (by simp)
    by_cases m : b ∈ frs (envOfC qual scope s₀.heap.objs.size f cd :: outer)
    · obtain ⟨sl3, z3⟩ := l.slot b _ m z2
      exact ⟨sl3, z3⟩
    · exact ⟨sl2, l.keep b _ m (na b o z) (no b o z) z2⟩
  · obtain ⟨o1, z1⟩ := I.base.there b o z (by intro m; cases m)
    have n1 := I.base.free b o z nz (by intro m; cases m)
    show upd H2 a _ b = none
    rw [upd_ne (na b o z)]
    exact un.free b o1 z1 n1 (by simp)
  · obtain ⟨o1, z1⟩ := I.base.there b o z (by intro m; cases m)
    obtain ⟨o2, z2⟩ := un.there b o1 z1 (by simp)
    exact l.there b o2 z2
  · exact hu b _ (un.tups b xs (I.base.tups b xs z)) (fun e => nomatch e)
  · exact hu b _ (un.frzs b o u (I.base.frzs b o u z)) (fun e => nomatch e)
  · obtain ⟨m1, z1⟩ := I.base.tbls b ps z
    obtain ⟨m2, z2⟩ := un.tbls b _ z1
    exact ⟨m1 ++ m2, by rw [← Array.append_assoc]; exact hu b _ z2 (fun e => nomatch e)⟩
theorem pass1 (hfr : scope.kind ≠ .module) (hE : ∀ a H C od, H a = some (exG false a C od) → E (.ref a) none H → E (.ref a) none (upd H a (exG false a C od))) : Passes (CX1 P w) (cxOf (CX1 P w) P w K mg base N qual scope f cd A outer s₀ H₀ E) E := by
  intro pins σ H1 s1 e s' I hq
  obtain ⟨a, C, od, H2, rfl, os, bare, un, ok, ha, hn, ⟨oe, vs, T, oT, ts, t1, t2, t3, t4, t5, t6, t7, t8, t9⟩, q⟩ := hq
  have hn0 : s₀.heap.get? a = none := by
    cases z : s₀.heap.get? a with
    | none => rfl
    | some o =>
      obtain ⟨o1, z1⟩ := I.base.there a o z (by intro m; cases m)
      rw [hn] at z1; cases z1
  have hT0 : s₀.heap.get? T = none := by
    cases z : s₀.heap.get? T with
    | none => rfl
    | some o =>
      obtain ⟨o1, z1⟩ := I.base.there T o z (by intro m; cases m)
      rw [t9] at z1; cases z1
  have fun2 : s'.heap.FunFrames base (envOfC qual scope s₀.heap.objs.size f cd :: outer) := fun_un I.stack fun b hb o ho => un.any ho (I.stkFree b hb) (by simp)
  refine lv_next (base := base) (L := s₀.heap.objs.size) (I.ok.frames) fun2 rfl t1 t2 t3 t4 t5 t6 t7 fun h3 l => ?_
  exact lv_cx I os bare un ok ha t1 hn0 (fun b hb => by simp at hb; subst hb; exact ⟨t8, hT0⟩) l (hE a H2 C od ha q)
theorem upd_self {H : Hp} {a : Addr} {o : HO} (h : H a = some o) : upd H a o = H := by
  funext b
  unfold upd
  split
  · rename_i e; rw [e, h]
  · rfl
theorem pass1' : Passes (CX1 P w) (cxOf (CX1 P w) P w K mg base N qual scope f cd A outer s₀ H₀ E) E := by
  intro pins σ H1 s1 e s' I hq
  exact pass1 (by have := I.ok.kind; show scope.kind ≠ _; rw [show scope.kind = .function from this]; decide) (fun a H C od h q => by rw [upd_self h]; exact q) pins σ H1 s1 e s' I hq
noncomputable def rRaise (K : PySem.W.Frag) (H0 : Hp) (E : XK) (x : V) (H1 : Hp) : Prop := ∃ a C od, x = .ref a ∧ H1 a = some (exO a C od) ∧ XC K C ∧ H0 a = none ∧ E (.ref a) none (upd H1 a (exG false a C od))
noncomputable def sRaise (K : PySem.W.Frag) (H0 : Hp) (E : XK) (t : TE) : TS := fun D σ H => t σ H fun x H1 => rRaise K H0 E x H1
theorem ps_raise {ex : Expr} {t : TE} {pos : Pos} {X : Cx} (hX : X = cxOf (CX1 P w) P w K mg base N qual scope f cd A outer s₀ H₀ E) (he : PE X ex t) : PS X (.Raise (some ex) none pos) (sRaise K H₀ E t) := by
  subst hX
  intro pins s σ H D I h
  rw [arm_exec_Raise]
  refine wpAny_bind (wpAny_standAt ?_)
  unfold raiseStmt
  simp only [evalOpt, Option.map]
  refine wpAny_bind (wpAny_bind (thn (he pins s σ H _ I h) fun v s1 ⟨x, H1, I1, rx, a, C, od, ex', ha, hc, h0, q⟩ => wpAny_bind (wpAny_standAt (wpAny_pure ?_))))
  subst ex'
  obtain rfl : v = Value.ref a := rx
  obtain ⟨vs, sl, hx, hv⟩ := exO_ok.mp (I1.hok a _ ha)
  have hv := hv rfl
  obtain ⟨nm, qn, N', bs, bm, sn, sub, ab, col, dd, k0, k1, k2, k3, k5, hl, htl⟩ := xc_obj hc.ex
  have hC := I1.kIn _ _ hl
  have hcB : (Value.ref C :: bm).contains (.type "BaseException") = true := by rw [List.contains_cons, xc_bex (PySem.W.tail_of_in I1.kIn htl), Bool.or_true]
  have fin : (cxOf (CX1 P w) P w K mg base N qual scope f cd A outer s₀ H₀ E).xe (.ref a) s1 := by
    refine lv_first (base := base) (L := s₀.heap.objs.size) I1.ok.frames I1.stack rfl hx rfl hv fun h3 l => ?_
    have hn0 : s₀.heap.get? a = none := by
      cases z : s₀.heap.get? a with
      | none => rfl
      | some o =>
        have := I1.base.free a o z h0 (by intro m; cases m)
        rw [ha] at this; cases this
    exact lv_cx I1 rfl I1.bare Un.refl I1.hok ha hx hn0 (by simp) l q
  obtain ⟨hh, g, d, tk, os⟩ := s1
  repeat (first | (with_reducible refine wpAny_loadPart_at hx ?_) | (with_reducible refine wpAny_loadPart_at hC ?_) | (with_reducible refine wpAny_isSubtype_exc hC ?_; rw [hcB]) | (with_reducible refine wpAny_field hx rfl hv ?_) | wp_step)
  exact wpAny_raiseNew_none (I1.ok.hd rfl) fin
end
end L2
set_option Elab.async false
set_option linter.all false
set_option maxRecDepth 100000
set_option maxHeartbeats 4000000
namespace L2
open PySem PySem.Spec PyProof.Rows
section
variable {X : Cx} {pins : List (Addr × Obj)} {σ : St} {H : Hp} {s : Shared}
theorem gone_ok {M : Model} {A : Around} {E : Value → Shared → Prop} {i : Nat} {x : Str} {pos : Pos} {Q : Unit → Shared → Prop} (I : Inv X pins σ H s) (hN : X.N.Nodup) (hi : X.N[i]? = some x) (hk : X.env.scope.names.lookup x = some .local)
    (h : ∀ s', Inv X pins (σ.set i none) H s' → Q () s') : wpAny M A (do bindName X.env x .none; unbindBehindTheSuite X.env x pos) Q E s := by
  refine wpAny_bind (wpAny_bindName (store_ok (v := .non) (u := .none) I hN hi (.inl hk) rfl (fun s1 I1 => ?_) (.inr hk)))
  unfold unbindBehindTheSuite
  refine wpAny_onRaise ?_
  obtain ⟨m, hn, hl⟩ := id I1.loc
  have hcls : (X.env.scope.kind == .class || (X.env.scope.kind == .module && X.env.locals != X.env.globals)) = false := by rw [I1.ok.kind]; rfl
  have hiσ : i < σ.length := by rw [I.len]; exact (List.getElem?_eq_some_iff.mp hi).1
  obtain ⟨u, ru, lu⟩ := hl i x .non hi (List.getElem?_set_self hiσ) (.inl hk)
  have hmx : m x = some u := by
    rcases lu with ⟨_, z⟩ | ⟨z, _⟩
    · exact z
    · have z' : X.env.scope.names.lookup x = some .cell ∨ X.env.scope.names.lookup x = some .free := z
      rw [hk] at z'
      rcases z' with z' | z' <;> cases z'
  refine wpAny_unbindName_local hk hn hmx hcls fun h' w hn' hs => h _ ?_
  obtain ⟨oL, _, _, hoL, _⟩ := id hn
  have cne := I1.cne
  refine ⟨I1.ok, I1.os, I1.bare, ⟨fun b o e n hb hx => ?_, fun b o e n hb hx => ?_, I1.base.free, fun b o e hx => ?_, I1.base.tups, I1.base.frzs, I1.base.tbls⟩, ⟨_, hn', fun j y v' e1 e2 e3 => ?_⟩, fun y c e => ?_, I1.free, I1.freeC, fun p hp => ?_, fun b ob e => ?_, by simpa using I.len⟩
  · exact (hs.2 b (Nat.ne_of_lt (Nat.lt_of_lt_of_le (Heap.lt_size e) I1.ok.above))).trans (I1.base.keep b o e n hb hx)
  · obtain ⟨sl, e1⟩ := I1.base.slot b o e n hb hx
    exact ⟨sl, (hs.2 b (Nat.ne_of_lt (Nat.lt_of_lt_of_le (Heap.lt_size e) I1.ok.above))).trans e1⟩
  · obtain ⟨o', e1⟩ := I1.base.there b o e hx
    exact ⟨o', (hs.2 b (Nat.ne_of_lt (Nat.lt_of_lt_of_le (Heap.lt_size e) I1.ok.above))).trans e1⟩
  · by_cases hj : j = i
    · subst hj
      rw [List.getElem?_set_self hiσ] at e2
      cases e2
    · rw [List.getElem?_set_ne (Ne.symm hj)] at e2
      obtain ⟨u', r', q⟩ := hl j y v' e1 (by rw [List.getElem?_set_ne (Ne.symm hj)]; exact e2) e3
      refine ⟨u', r', ?_⟩
      rcases q with ⟨k, e⟩ | ⟨k, c, e, z⟩
      · refine .inl ⟨k, ?_⟩
        have ne : y ≠ x := fun e => hj (nodup_ix hN e1 (e ▸ hi))
        simp [ne, e]
      · exact .inr ⟨k, c, e, z.sameBut hs (cne y c e)⟩
  · obtain ⟨w', z⟩ := I1.cell y c e
    exact ⟨w', z.sameBut hs (cne y c e)⟩
  · obtain ⟨e, n, ne, nf, d⟩ := I1.pin p hp
    exact ⟨(hs.2 p.1 ne).trans e, n, ne, nf, d⟩
  · refine (I1.hok b ob e).stay (fun c w' hc q => (hs.2 c ?_).trans q) (fun _ q => q) fun _ _ q => q
    rintro rfl
    rcases hc with hc | hc
    · rw [← hc] at e; rw [I1.free] at e; cases e
    · rw [I1.free] at hc; cases hc
noncomputable abbrev Cx.tri (X : Cx) (pins : List (Addr × Obj)) (E : Value → Shared → Prop) : Cx := { X with xe := E, pn := X.pn ++ pins }
noncomputable abbrev Cx.hnd (X : Cx) (a : Addr) (E : Value → Shared → Prop) : Cx := { X with A := X.A.mark (some (.ref a)), calm := false, xe := E }
theorem Inv.tri (I : Inv X pins σ H s) (E : Value → Shared → Prop) : Inv (X.tri pins E) [] σ H s :=
  ⟨⟨I.ok.mod, I.ok.kind, I.ok.glob, I.ok.blt, I.ok.above, I.ok.inj, I.ok.has, I.ok.cab, I.ok.hd, I.ok.frames, I.ok.stk, I.ok.exf, I.ok.bs, I.ok.bsz, I.ok.noex, I.ok.exfs, I.ok.funs, I.ok.frf⟩, I.os, I.bare, I.base, I.loc, I.cell, I.free, I.freeC, fun p hp => I.pin p (by simpa using hp), I.hok, I.len⟩
theorem Inv.untri {E : Value → Shared → Prop} {more : List (Addr × Obj)} (I : Inv (X.tri pins E) more σ H s) : Inv X pins σ H s :=
  ⟨⟨I.ok.mod, I.ok.kind, I.ok.glob, I.ok.blt, I.ok.above, I.ok.inj, I.ok.has, I.ok.cab, I.ok.hd, I.ok.frames, I.ok.stk, I.ok.exf, I.ok.bs, I.ok.bsz, I.ok.noex, I.ok.exfs, I.ok.funs, I.ok.frf⟩, I.os, I.bare, I.base, I.loc, I.cell, I.free, I.freeC, fun p hp => I.pin p (List.mem_append_left _ hp), I.hok, I.len⟩
theorem Inv.hnd (I : Inv X pins σ H s) (a : Addr) (E : Value → Shared → Prop) : Inv (X.hnd a E) pins σ H s :=
  ⟨⟨I.ok.mod, I.ok.kind, I.ok.glob, I.ok.blt, I.ok.above, I.ok.inj, I.ok.has, I.ok.cab, fun z => Bool.noConfusion z, I.ok.frames, I.ok.stk, I.ok.exf, I.ok.bs, I.ok.bsz, I.ok.noex, I.ok.exfs, I.ok.funs, I.ok.frf⟩, I.os, I.bare, I.base, I.loc, I.cell, I.free, I.freeC, I.pin, I.hok, I.len⟩
theorem Inv.unhnd {a : Addr} {E : Value → Shared → Prop} (hd : X.calm = true → X.A.handled = none) (I : Inv (X.hnd a E) pins σ H s) : Inv X pins σ H s :=
  ⟨⟨I.ok.mod, I.ok.kind, I.ok.glob, I.ok.blt, I.ok.above, I.ok.inj, I.ok.has, I.ok.cab, hd, I.ok.frames, I.ok.stk, I.ok.exf, I.ok.bs, I.ok.bsz, I.ok.noex, I.ok.exfs, I.ok.funs, I.ok.frf⟩, I.os, I.bare, I.base, I.loc, I.cell, I.free, I.freeC, I.pin, I.hok, I.len⟩
end
section
variable {M : Model} {A : Around} {E : Value → Shared → Prop} {s : Shared} {K : PySem.W.Frag} {C B a : Addr} {oe : Obj} {Q : Bool → Shared → Prop}
theorem xc_match (X : K.In s.heap) (c : XC K C) (b : XC K B) (hm : PySem.W.mroIn K C (.ref B) = some true) (he : s.heap.get? a = some oe) (hc : oe.cls = .ref C) (hq : Q true s) : wpAny M A (excMatches (.ref a) (.ref B)) Q E s := by
  obtain ⟨nm, qn, N, bs, bm, sn, sub, ab, col, dd, k0, k1, k2, k3, k5, hl, htl⟩ := xc_obj b.ex
  have hB := X _ _ hl
  have hcB : (Value.ref B :: bm).contains (.type "BaseException") = true := by rw [List.contains_cons, xc_bex (PySem.W.tail_of_in X htl), Bool.or_true]
  have f := tc_notTuple
  have l1 : PySem.W.Looks M s.heap (isSubtype (.ref C) (.ref B)) true := PySem.W.looks_mroIn X hm
  obtain ⟨h, g, d, t, os⟩ := s
  unfold excMatches
  repeat (first | (with_reducible refine wpAny_loadPart_at he ?_; rw [hc]) | (with_reducible refine wpAny_loadPart_at hB ?_) | (with_reducible refine wpAny_isSubtype_exc hB ?_; rw [hcB]) | (with_reducible refine l1.at ?_) | wp_step)
  exact hq
end
end L2
set_option Elab.async false
set_option linter.all false
set_option maxRecDepth 100000
set_option maxHeartbeats 4000000
namespace L2
open PySem PySem.Spec PyProof.Rows
noncomputable def tryE (G : Addr → Hp → Prop) : XK := fun v _ H' => ∃ a, v = .ref a ∧ G a H'
noncomputable def sTry (K : PySem.W.Frag) (len i : Nat) (B : Addr) (G : Addr → Hp → Prop) (tb th : TS) : TS := fun D σ H => tb D σ H ∧ ∀ (a : Addr) (H' : Hp) (σ' : St), σ'.length = len → G a H' →
  (∃ C od, H' a = some (exG false a C od) ∧ XC K C ∧ PySem.W.mroIn K C (.ref B) = some true) ∧
    th { nx := fun σ2 H2 => D.nx (σ2.set i none) H2, rt := D.rt, bk := fun σ2 H2 => D.bk (σ2.set i none) H2, ct := fun σ2 H2 => D.ct (σ2.set i none) H2 } (σ'.set i (some (.ref a))) H'
section
variable {X : Cx} {pins : List (Addr × Obj)}
theorem SP.untri {E : Value → Shared → Prop} {D : Ends} {f : Flow} {s' : Shared} (h : SP (X.tri pins E) [] D f s') : SP X pins D f s' := by
  cases f with
  | next => obtain ⟨σ', H', I, q⟩ := h; exact ⟨σ', H', I.untri, q⟩
  | brk => obtain ⟨σ', H', I, q⟩ := h; exact ⟨σ', H', I.untri, q⟩
  | cont => obtain ⟨σ', H', I, q⟩ := h; exact ⟨σ', H', I.untri, q⟩
  | ret u => obtain ⟨v, σ', H', I, r, q⟩ := h; exact ⟨v, σ', H', I.untri, r, q⟩
theorem setF_id {ts : Array Value} (h : ts[3]? = some .none) : ts.setIfInBounds 3 .none = ts := by
  obtain ⟨h1, h2⟩ := Array.getElem?_eq_some_iff.mp h
  refine Array.ext (by simp) fun j j1 j2 => ?_
  rw [Array.getElem_setIfInBounds]
  split
  · rename_i e; subst e; exact h2.symm
  · rfl
theorem ps_try {body suite : List Stmt} {b0 : Stmt} {tb th : TS} {n bx : Str} {i : Nat} {B : Addr} {p1 p2 pos : Pos} (G : Addr → Hp → Prop) (hN : X.N.Nodup) (hi : X.N[i]? = some n) (hk : X.env.scope.names.lookup n = some .local) (hg : Gl X bx) (hm : X.mg bx = some (.ref B)) (hB : XC X.K B)
    (hst : X.stack = X.env :: X.outer) (hf : X.env.frame = some X.env.locals) (hex : X.ex = [])
    (hb : ∀ ps xe, Passes (CX1 X.prog X.w) (X.tri ps xe) (tryE G) → PSs (X.tri ps xe) body tb) (hs : ∀ a xe, PSs (X.hnd a xe) (b0 :: suite) th) (hd : (bx == ("__debug__" : Str)) = false := by decide) :
    PS X (.Try body [.ExceptHandler (some (.Name bx p1)) (some n) (b0 :: suite) p2] [] [] pos) (sTry X.K X.N.length i B G tb th) := by
  intro pins s σ H D I h
  refine wpAny_Try_except ?_
  refine wpAny_mono (hb pins _ ?_ [] s σ H D (I.tri _) h.1) (fun f s1 hs1 => ?_) fun e s1 he => he
  · intro pins2 σ2 H2 s2 e s3 I2 hq
    obtain ⟨a, C', od', H3, rfl, os, bare, un, ok, ha', hn, ⟨oe, vs, T, oT, ts, t1, t2, t3, t4, t5, t6, t7, t8, t9⟩, a', ea, q⟩ := hq
    cases ea
    have J2 : Inv X pins σ2 H2 s2 := I2.untri
    obtain ⟨⟨C, od, ha, hc, hmro⟩, q3⟩ := h.2 a H3 σ2 (by rw [J2.len]) q
    have un' : Un (frs X.stack) [] H2 H3 s2.heap s3.heap := un
    have fun3 : s3.heap.FunFrames X.base (X.env :: X.outer) := by
      have := fun_un (h' := s3.heap) J2.stack fun b hb o ho => un'.any ho (J2.stkFree b hb) (by simp)
      rwa [hst] at this
    have fr3 : ∀ b ∈ frs X.stack, H3 b = none := fun b hb => by
      obtain ⟨_, o, ho, _⟩ := J2.stack.mem hb
      exact un'.free b o ho (J2.stkFree b hb) (by simp)
    refine lv_nextS (base := X.base) (L := X.env.locals) (by have := J2.ok.frames; rwa [hst] at this) fun3 hf t1 t2 t3 t4 t5 t6 t7 fun h4 l => ?_
    rw [← hst] at l
    have ok4 : HOk X.prog X.w H3 h4 := by
      have := l.hok ok t1 ha fr3 (fun b hb => by simp at hb; subst hb; exact t8)
      rwa [upd_self ha] at this
    have un4 : Un (frs X.stack) [] H2 H3 s2.heap h4 := by
      have na : ∀ b o, s2.heap.get? b = some o → b ≠ a := fun b o z e => by rw [e, hn] at z; cases z
      have nT : ∀ b o, s2.heap.get? b = some o → b ∉ [T] := fun b o z e => by simp at e; rw [e, t9] at z; cases z
      refine ⟨fun b o z nz hb hx => l.keep b o hb (na b o z) (nT b o z) (un'.keep b o z nz hb hx), fun b o z nz hb hx => ?_, un'.free, fun b o z hx => ?_, un'.tups, un'.frzs, un'.tbls⟩
      · obtain ⟨sl, z1⟩ := un'.slot b o z nz hb hx
        obtain ⟨sl2, z2⟩ := l.slot b _ hb z1
        exact ⟨sl2, z2⟩
      · obtain ⟨o1, z1⟩ := un'.there b o z hx
        exact l.there b o1 z1
    have I4 : Inv X pins σ2 H3 { s3 with heap := h4 } := J2.call' (s' := { s3 with heap := h4 }) (ch := []) os un4 ok4 bare (fun b z => absurd z (by simp))
    obtain ⟨us, sl4, he4, _⟩ := exG_ok.mp (ok4 a _ ha)
    obtain ⟨oe', vs', T', oT', ts', q1, q2, q3', q4, q5, q6, q7, q8, q9, q10, q11⟩ := l.tr
    have hd4 : X.calm = true → X.A.handled = none := I.ok.hd
    refine wpAny_handleBy_cons (codeAny_handlers_test ?_) (by intro q; cases q)
    refine ld_glob (X := X.hnd a fun _ _ => False) (I4.hnd a _) hg hm ?_ hd
    refine xc_match (s := { s3 with heap := h4 }) I4.kIn hc hB hmro he4 rfl ?_
    refine codeAny_handlers_suite_as ?_
    have hz : 3 < ts'.size := (Array.getElem?_eq_some_iff.mp q11).1
    refine wpAny_setFlight_none q1 q5 q6 q9 q10 hz ?_
    have same : ∀ b u, h4.get? b = some u → (h4.update T' (Obj.mapFields (·.setIfInBounds 3 .none))).get? b = some u := fun b u z => by
      by_cases e : b = T'
      · subst e
        rw [q9] at z; cases z
        rw [Heap.get?_update_self _ q9 (Obj.isFreed_of_fields (Obj.data_mapFields q10 _))]
        obtain ⟨c1, d1, dt1, s1'⟩ := oT'
        dsimp only at q10
        subst q10
        refine congrArg some ?_
        show Obj.mk c1 d1 (Data.fields (ts'.setIfInBounds 3 .none)) s1' = _
        rw [setF_id q11]
      · rw [Heap.get?_update_other _ _ (Ne.symm e)]; exact z
    have I5 : Inv X pins σ2 H3 { s3 with heap := h4.update T' (Obj.mapFields (·.setIfInBounds 3 .none)) } := I4.kept (t' := s3.toks) same
    refine store_ok (X := X) (v := .ref a) I5 hN hi (.inl hk) rfl (fun s6 I6 => ?_) (.inr hk)
    refine thn (hs a _ pins s6 _ H3 _ (I6.hnd a _) q3) fun f s7 h7 => ?_
    cases f with
    | next => obtain ⟨σ7, H7, I7, q7'⟩ := h7; exact gone_ok (I7.unhnd hd4) hN hi hk fun s8 I8 => ⟨_, _, I8, q7'⟩
    | brk => obtain ⟨σ7, H7, I7, q7'⟩ := h7; exact gone_ok (I7.unhnd hd4) hN hi hk fun s8 I8 => ⟨_, _, I8, q7'⟩
    | cont => obtain ⟨σ7, H7, I7, q7'⟩ := h7; exact gone_ok (I7.unhnd hd4) hN hi hk fun s8 I8 => ⟨_, _, I8, q7'⟩
    | ret u => obtain ⟨v, σ7, H7, I7, r7, q7'⟩ := h7; exact gone_ok (I7.unhnd hd4) hN hi hk fun s8 I8 => ⟨v, _, _, I8, r7, q7'⟩
  · have hs1 := hs1.untri
    cases f with
    | next => exact wpAny_pure hs1
    | brk => exact hs1
    | cont => exact hs1
    | ret u => exact hs1
end
end L2
set_option Elab.async false
set_option linter.all false
set_option maxRecDepth 100000
set_option maxHeartbeats 4000000
namespace L2
open PySem PySem.Spec PyProof.Rows
noncomputable def Fnd1 (P : Program) (w : World) (K : PySem.W.Frag) (mg : Str → Option Value) (base : Heap) (k : Nat) (x : Str) (ps : List Str) (sp : Sp) : Prop :=
  ∃ f fd, FnOk P w K mg base (CX1 P w) k f fd ps sp ∧ mg x = some (.ref f) ∧ PySem.W.keepIn K (.ref f) = true ∧ Binds K fd ps []
section
variable {X : Cx} {k : Nat} {x : Str} {ps : List Str} {sp : Sp} {e : Expr} {es : List Expr} {t : TA} {p pos : Pos} {E : XK}
theorem pe_fn1 (F : Fnd1 X.prog X.w X.K X.mg X.base k x ps sp) (hr : Room k X.A) (hg : Gl X x) (hx : Passes (CX1 X.prog X.w) X E) (ha : PA X (e :: es) t) (hdb : (x == ("__debug__" : Str)) = false := by decide)
    (he : starEach (e :: es) X.env = (false, eval e X.env) :: starEach es X.env := by with_unfolding_all rfl) (hpl : (backTo pos (starEach es X.env)).any (·.1) = false := by with_unfolding_all rfl) : PE X (.Call (.Name x p) (e :: es) [] pos) (tCall sp [] E t) := by
  obtain ⟨f, fd, h1, h2, h3, h4⟩ := F
  exact pe_call h1 hr hg h2 h3 h4 .nil hx ha hdb he hpl
end
section
variable {P : Program} {w : World} {K : PySem.W.Frag} {mg : Str → Option Value} {base : Heap}
theorem Fun.ok1 {x qual : Str} {st : Stmt} {f : Addr} {fd : FuncData} {N ps : List Str} {k : Nat} {sp : Sp} (F : Fun K x qual st f fd) (S : FnScope N ps (defScope st)) (len : ∀ vs H Q E, sp vs H Q E → vs.length = ps.length)
    (hbody : ∀ (cdv : Value) (A : Around) (outer : List Env) (s : Shared) (H : Hp) (vs : List V) (Q : VK) (E : XK), Room k (A.deeper (envOfC qual (defScope st) s.heap.objs.size f cdv)) → sp vs H Q E →
      ∃ t, PSs (cxOf (CX1 P w) P w K mg base N qual (defScope st) f cdv A outer s H E) (defBody st) t ∧ t { nx := fun _ H' => Q .non H', rt := Q } (start N vs) H) : FnOk P w K mg base (CX1 P w) (k + 1) f fd ps sp := by
  obtain ⟨oc, od, kV, doc, pm, an, cdv, ct, osl, rfl, lk, hcd⟩ := F.ex
  exact fn_of lk hcd S len fun A outer s H vs Q E hr hsp => hbody cdv A outer s H vs Q E hr hsp
end
section
variable {K : PySem.W.Frag} {σ : St} {H H0 : Hp} {D : Ends} {t : TE} {C a : Addr} {fs : List (Str × V)} {E : XK}
theorem i_raise (h : ExA H a C fs) (c : XC K C) (h0 : H0 a = none) (k : ∀ H2, (∀ b o, b ≠ a → H b = some o → H2 b = some o) → ExB false H2 a C fs → E (.ref a) none H2) : rRaise K H0 E (.ref a) H := by
  have kp : ∀ od b o, b ≠ a → H b = some o → upd H a (exG false a C od) b = some o := fun od b o hb q => by rw [upd_ne hb]; exact q
  rcases h with ⟨e1, h⟩ | ⟨dx, ne, h, g⟩
  · exact ⟨a, C, none, rfl, h, c, h0, k _ (kp _) (.inl ⟨e1, upd_same⟩)⟩
  · exact ⟨a, C, some dx, rfl, h, c, h0, k _ (kp _) (.inr ⟨dx, ne, upd_same, kp _ _ _ ne g⟩)⟩
end
end L2
set_option Elab.async false
set_option linter.all false
set_option maxRecDepth 100000
set_option maxHeartbeats 4000000
namespace L2
section
open Lean
def mWay (s : String) : MacroM (TSyntax `tactic) :=
  if s == "as" then `(tactic| assumption) else if s == "ar" then `(tactic| with_reducible assumption) else `(tactic| walk_at $(quote s))
def mFirst (ts : Array (TSyntax `tactic)) : MacroM (TSyntax `tactic) := do
  let ts ← ts.mapM fun t => `(Lean.Parser.Tactic.tacticSeq| $t:tactic)
  `(tactic| first $[| $ts]*)
def mId (s : String) : Ident := mkIdent ((s.splitOn ".").foldl Name.mkStr Name.anonymous)
def mIs (s : String) : MacroM Ident := do return mkIdent (← Macro.addMacroScope (.mkSimple s))
def mCases : List String → TSyntax `tactic → MacroM (TSyntax `tactic)
  | [], t => pure t
  | s :: r, t => do
    match s.splitOn "=" with
    | [x, y] => let w ← mWay y; let i ← mIs x; mCases r (← `(tactic| ($t:tactic; (case $i:ident => $w:tactic))))
    | _ => mCases r t
def mRow (s : String) : MacroM (TSyntax `tactic) := do
  match s.splitOn ": " with
  | [h, c] =>
    match h.splitOn " " with
    | f :: as =>
      let xs ← as.toArray.mapM fun a => do if a == "_" then `(?_) else `(?$(← mIs a))
      let u := Syntax.mkApp (mId f) xs
      let t ← if as.contains "_" then `(tactic| with_reducible refine' $u) else `(tactic| refine' $u)
      mCases (c.splitOn " ") t
    | _ => Macro.throwUnsupported
  | _ => do
    if s == "as" then `(tactic| assumption)
    else if s == "no" then `(tactic| fail "no")
    else `(tactic| exact $(mId s))
def mRows (s : String) : MacroM (TSyntax `tactic) := do mFirst (← (s.splitOn " | ").toArray.mapM mRow)
def mAlts (s : String) : MacroM (TSyntax `tactic) := do
  let a ← mFirst (← (s.splitOn " ").toArray.mapM fun n => `(tactic| refine $(mId n) ?_))
  `(tactic| with_reducible $a:tactic)
def mAltG (s : String) : MacroM (TSyntax `tactic) := do
  let a ← mFirst (← (s.splitOn " ").toArray.mapM fun n => `(tactic| refine $(mId n) fun N hN => ?_))
  `(tactic| with_reducible $a:tactic)
end
section
open PySem
theorem same_refl {H : Hp} : Same H H := Same.refl _
noncomputable def Cut (N M : St → Hp → Prop) : Prop := ∀ σ H, M σ H → N σ H
section
variable {t u : TS} {te td ty tv : TE} {g : TG} {D : Ends} {σ : St} {H : Hp}
theorem i_seqG (k : ∀ N : St → Hp → Prop, Cut N (u D) → t { D with nx := N } σ H) : tSeq t u D σ H := k (u D) fun _ _ h => h
theorem i_seqAG (k : ∀ N : St → Hp → Prop, Cut N (u D) → tAsg te g { D with nx := N } σ H) : tSeq (tAsg te g) u D σ H := k (u D) fun _ _ h => h
theorem i_nxS {i : Nat} {rt : VK} {bk ct : St → Hp → Prop} (k : D.nx (σ.set i none) H) : Ends.nx { nx := fun σ2 H2 => D.nx (σ2.set i none) H2, rt := rt, bk := bk, ct := ct } σ H := k
theorem i_cutN {N M : St → Hp → Prop} (h : Cut N M) (k : M σ H) : N σ H := h _ _ k
end
theorem len_n0 {α : Type} {P : List α → Prop} {us : List α} (hl : us.length = 0) (h : P []) : P us := by
  rw [List.length_eq_zero_iff.mp hl]; exact h
theorem len_n1 {α : Type} {P : List α → Prop} {us : List α} (hl : us.length = 1) (h : ∀ a0 : α, P [a0]) : P us := by
  cases us with
  | nil => cases hl
  | cons a r => exact len_n0 (P := fun r => P (a :: r)) (Nat.succ.inj hl) (h a)
theorem len_n2 {α : Type} {P : List α → Prop} {us : List α} (hl : us.length = 2) (h : ∀ a0 a1 : α, P [a0, a1]) : P us := by
  cases us with
  | nil => cases hl
  | cons a r => exact len_n1 (P := fun r => P (a :: r)) (Nat.succ.inj hl) (h a)
theorem len_n3 {α : Type} {P : List α → Prop} {us : List α} (hl : us.length = 3) (h : ∀ a0 a1 a2 : α, P [a0, a1, a2]) : P us := by
  cases us with
  | nil => cases hl
  | cons a r => exact len_n2 (P := fun r => P (a :: r)) (Nat.succ.inj hl) (h a)
theorem len_n4 {α : Type} {P : List α → Prop} {us : List α} (hl : us.length = 4) (h : ∀ a0 a1 a2 a3 : α, P [a0, a1, a2, a3]) : P us := by
  cases us with
  | nil => cases hl
  | cons a r => exact len_n3 (P := fun r => P (a :: r)) (Nat.succ.inj hl) (h a)
theorem len_n5 {α : Type} {P : List α → Prop} {us : List α} (hl : us.length = 5) (h : ∀ a0 a1 a2 a3 a4 : α, P [a0, a1, a2, a3, a4]) : P us := by
  cases us with
  | nil => cases hl
  | cons a r => exact len_n4 (P := fun r => P (a :: r)) (Nat.succ.inj hl) (h a)
end
end L2
set_option Elab.async false
set_option linter.all false
set_option maxRecDepth 100000
set_option maxHeartbeats 4000000
namespace L2
open PySem PySem.Spec PyProof.Rows
section
variable {K : PySem.W.Frag} {x qual : Str} {st : Stmt} {f : Addr} {fd : FuncData}
theorem binds1 {p0 : Str} (F : Fun K x qual st f fd) (h : ∀ (kV doc pm : Value) (an : Option Addr) (cdv ct : Value) (u0 : Value), bindArgs (PySem.W.fnOf x qual (defArgs st) (defBody st) (defScope st) .none kV doc pm an cdv ct) ⟨[u0], []⟩ = pure (([p0] : List Str).zip [u0])) : Binds K fd [p0] [] :=
  F.binds fun kV doc pm an cdv ct us hl => len_n1 (P := fun us => bindArgs (PySem.W.fnOf x qual (defArgs st) (defBody st) (defScope st) .none kV doc pm an cdv ct) ⟨us, []⟩ = pure (([p0] : List Str).zip us)) hl (h kV doc pm an cdv ct)
theorem binds2 {p0 p1 : Str} (F : Fun K x qual st f fd) (h : ∀ (kV doc pm : Value) (an : Option Addr) (cdv ct : Value) (u0 u1 : Value), bindArgs (PySem.W.fnOf x qual (defArgs st) (defBody st) (defScope st) .none kV doc pm an cdv ct) ⟨[u0, u1], []⟩ = pure (([p0, p1] : List Str).zip [u0, u1])) : Binds K fd [p0, p1] [] :=
  F.binds fun kV doc pm an cdv ct us hl => len_n2 (P := fun us => bindArgs (PySem.W.fnOf x qual (defArgs st) (defBody st) (defScope st) .none kV doc pm an cdv ct) ⟨us, []⟩ = pure (([p0, p1] : List Str).zip us)) hl (h kV doc pm an cdv ct)
theorem binds3 {p0 p1 p2 : Str} (F : Fun K x qual st f fd) (h : ∀ (kV doc pm : Value) (an : Option Addr) (cdv ct : Value) (u0 u1 u2 : Value), bindArgs (PySem.W.fnOf x qual (defArgs st) (defBody st) (defScope st) .none kV doc pm an cdv ct) ⟨[u0, u1, u2], []⟩ = pure (([p0, p1, p2] : List Str).zip [u0, u1, u2])) : Binds K fd [p0, p1, p2] [] :=
  F.binds fun kV doc pm an cdv ct us hl => len_n3 (P := fun us => bindArgs (PySem.W.fnOf x qual (defArgs st) (defBody st) (defScope st) .none kV doc pm an cdv ct) ⟨us, []⟩ = pure (([p0, p1, p2] : List Str).zip us)) hl (h kV doc pm an cdv ct)
theorem binds4 {p0 p1 p2 p3 : Str} (F : Fun K x qual st f fd) (h : ∀ (kV doc pm : Value) (an : Option Addr) (cdv ct : Value) (u0 u1 u2 u3 : Value), bindArgs (PySem.W.fnOf x qual (defArgs st) (defBody st) (defScope st) .none kV doc pm an cdv ct) ⟨[u0, u1, u2, u3], []⟩ = pure (([p0, p1, p2, p3] : List Str).zip [u0, u1, u2, u3])) : Binds K fd [p0, p1, p2, p3] [] :=
  F.binds fun kV doc pm an cdv ct us hl => len_n4 (P := fun us => bindArgs (PySem.W.fnOf x qual (defArgs st) (defBody st) (defScope st) .none kV doc pm an cdv ct) ⟨us, []⟩ = pure (([p0, p1, p2, p3] : List Str).zip us)) hl (h kV doc pm an cdv ct)
theorem binds5 {p0 p1 p2 p3 p4 : Str} (F : Fun K x qual st f fd) (h : ∀ (kV doc pm : Value) (an : Option Addr) (cdv ct : Value) (u0 u1 u2 u3 u4 : Value), bindArgs (PySem.W.fnOf x qual (defArgs st) (defBody st) (defScope st) .none kV doc pm an cdv ct) ⟨[u0, u1, u2, u3, u4], []⟩ = pure (([p0, p1, p2, p3, p4] : List Str).zip [u0, u1, u2, u3, u4])) : Binds K fd [p0, p1, p2, p3, p4] [] :=
  F.binds fun kV doc pm an cdv ct us hl => len_n5 (P := fun us => bindArgs (PySem.W.fnOf x qual (defArgs st) (defBody st) (defScope st) .none kV doc pm an cdv ct) ⟨us, []⟩ = pure (([p0, p1, p2, p3, p4] : List Str).zip us)) hl (h kV doc pm an cdv ct)
end
end L2
set_option Elab.async false
set_option linter.all false
set_option maxRecDepth 100000
set_option maxHeartbeats 4000000
namespace L2
open PySem PySem.Spec PyProof.Rows
noncomputable def rNeL0 (K : PySem.W.Frag) : R2 := fun x y H Q => ∃ a b xs, x = .ref a ∧ y = .ref b ∧ SqL K H a xs ∧ SqL K H b [] ∧ Q (.bl (!xs.isEmpty)) H
theorem op_neL0 {X : Cx} {K : PySem.W.Frag} (hq : QA X.A) (hK : X.K = K := by with_unfolding_all rfl) : OpR X (compareOp .NotEq) (rNeL0 K) := by
  subst hK
  intro pins s σ H x y v u Q I rx ry h
  obtain ⟨a, b, xs, rfl, rfl, ha, hb, q⟩ := h
  cases rx
  cases ry
  obtain ⟨its, rv, la, _⟩ := I.list ha
  obtain ⟨its2, rv2, lb, _⟩ := I.list hb
  cases rv2
  have hu : X.A.units < cLine := by have := hq.un; omega
  have la' : s.heap.IsList a its.toArray := let ⟨o, n, e1, e2, e3, e4⟩ := la; ⟨o, e1, e2, _, e4⟩
  have lb' : s.heap.IsList b ([] : List Value).toArray := let ⟨o, n, e1, e2, e3, e4⟩ := lb; ⟨o, e1, e2, _, e4⟩
  cases xs with
  | nil =>
    cases rv
    have r := SeqAt.RcNeAt.lists (A := X.A) (s := s) (e := fun _ => true) la' lb' rfl hu (fun j h1 => absurd h1 (by simp))
    exact r _ _ _ _ ⟨.bl _, H, I, rfl, q⟩
  | cons x r =>
    cases rv with
    | cons r1 r2 =>
      have r := SeqAt.RcNeAt.lists_lengths (A := X.A) (s := s) la' lb' (by simp) hu
      exact r _ _ _ _ ⟨.bl _, H, I, rfl, q⟩
theorem i_neL0 {K : PySem.W.Frag} {H : Hp} {Q : VK} {a b : Addr} {xs : List V} (h : SqL K H a xs) (h' : SqL K H b []) (k : Q (.bl (!xs.isEmpty)) H) : rNeL0 K (.ref a) (.ref b) H Q := ⟨a, b, xs, rfl, rfl, h, h', k⟩
end L2
set_option Elab.async false
set_option linter.all false
set_option maxRecDepth 100000
set_option maxHeartbeats 4000000
namespace L2
open PySem PySem.Spec PyProof.Rows
section
open PySem.SeqAt PySem.MeetsSeq
variable {A : Around} {s : Shared}
theorem dict_eq_no_str (l : Addr) (es : Array DictEntry) (n : Nat) (dd : Option Addr) (sl : Array (Option Value)) (b : Str) (u : Tok) :
    Meets (Builtin.«dict.__eq__» ⟨[.ref l, .str b u], []⟩) (fun _ R s => s.heap.get? l = some { cls := .type "dict", dict := dd, data := .dict es n, slots := sl } ∧ R (.ok (.ret .notImplemented)) s) :=
  .of_wp fun prog w A R s h => by obtain ⟨hp, g, d, tk, os⟩ := s; obtain ⟨hl, h⟩ := h; have f1 := F.sub_str_dict; wp_walk using wpAny_loadPart' hl; exact ⟨_, rfl, h⟩
theorem str_eq_no_dict (b : Str) (u : Tok) (l : Addr) (c : Value) (es : Array DictEntry) (n : Nat) (dd : Option Addr) (sl : Array (Option Value)) :
    Meets (Builtin.«str.__eq__» ⟨[.str b u, .ref l], []⟩) (fun _ R s => s.heap.get? l = some { cls := c, dict := dd, data := .dict es n, slots := sl } ∧ R (.ok (.ret .notImplemented)) s) :=
  .of_wp fun prog w A R s h => by obtain ⟨hp, g, d, tk, os⟩ := s; obtain ⟨hl, h⟩ := h; wp_walk using wpAny_loadPart' hl, wpAny_load hl; exact ⟨_, rfl, h⟩
theorem rc_dict_str {l : Addr} {es : Array DictEntry} {n : Nat} {dd : Option Addr} {sl : Array (Option Value)} (b : Str) (u : Tok) (ho : s.heap.get? l = some { cls := .type "dict", dict := dd, data := .dict es n, slots := sl }) (hu : A.units < cLine) : RcAt A s (.ref l) (.str b u) false := fun prog w E Q h =>
  rc_eq_decline_or (k := false) ⟨_, ho, rfl⟩ (typeIs_str s b u) (by decide) F.sub_str_dict F.slot_dict_eq F.slot_str_eq_refl
    (fun _ hq => call_meets F.slot_dict_eq ⟨_, ho, rfl⟩ F.entry_dict_eq (F.args_dict_eq_2 _ _) (dict_eq_no_str l es n dd sl b u) ⟨ho, hq⟩)
    (fun _ hq => call_meets F.slot_str_eq_refl (typeIs_str s b u) F.entry_str_eq (F.args_str_eq_2 _ _) (str_eq_no_dict b u l (.type "dict") es n dd sl) ⟨ho, hq⟩)
    (fun _ hq => wpAny_of_eq (rfl : isSame (.ref l) (.str b u) = pure false) hq) (.inr hu) h
theorem eq_dict_str {l : Addr} {es : Array DictEntry} {n : Nat} {dd : Option Addr} {sl : Array (Option Value)} (b : Str) (u : Tok) (ho : s.heap.get? l = some { cls := .type "dict", dict := dd, data := .dict es n, slots := sl }) (hu : A.units < cLine) : EqAt A s (.ref l) (.str b u) false := fun prog w E Q h => by
  unfold eqBool
  refine wpAny_holding ?_
  refine wpAny_ite_split (fun hab => absurd (eq_of_beq hab) nofun) (fun _ => ?_)
  exact wpAny_bind (rc_dict_str b u ho hu prog w E _ (wpAny_truthy_bool h))
end
noncomputable def ItM (K : PySem.W.Frag) (H : Hp) (e : V) : Prop := e = .non ∨ (∃ b, e = .bl b) ∨ (∃ i, e = .int i) ∨ (∃ z, e = .str z) ∨ (∃ a ys, e = .ref a ∧ (SqL K H a ys ∨ SqT K H a ys)) ∨ ∃ a kvs, e = .ref a ∧ H a = some (.dK kvs)
theorem ItM.same {K : PySem.W.Frag} {H H' : Hp} {e : V} (h : ItM K H e) (s : Same H H') : ItM K H' e := by
  rcases h with h | h | h | h | ⟨a, ys, h1, h2⟩ | ⟨a, kvs, h1, h2⟩
  · exact .inl h
  · exact .inr (.inl h)
  · exact .inr (.inr (.inl h))
  · exact .inr (.inr (.inr (.inl h)))
  · exact .inr (.inr (.inr (.inr (.inl ⟨a, ys, h1, h2.elim (fun h => .inl (s.seq h)) fun h => .inr (s.seqT h)⟩))))
  · exact .inr (.inr (.inr (.inr (.inr ⟨a, kvs, h1, s _ _ h2⟩))))
noncomputable def rInM (K : PySem.W.Frag) : R2 := fun x y H Q => ∃ z a xs, x = .str z ∧ y = .ref a ∧ SqT K H a xs ∧ (∀ e ∈ xs, ItM K H e) ∧ Q (.bl (decide (V.str z ∈ xs))) H
noncomputable def eqS (z : Str) : Value → Bool
  | .str b _ => b == z
  | _ => false
theorem any_eqS {z : Str} {xs : List V} {its : List Value} (r : Vals xs its) : its.any (eqS z) = decide (V.str z ∈ xs) := by
  induction r with
  | nil => rfl
  | cons r1 r2 ih =>
    rename_i x u xs us
    rw [List.any_cons, ih, Bool.eq_iff_iff]
    simp only [Bool.or_eq_true, decide_eq_true_eq, List.mem_cons]
    refine or_congr ?_ Iff.rfl
    cases x with
    | str b =>
      obtain ⟨t, rfl⟩ := r1
      show (b == z) = true ↔ _
      rw [beq_iff_eq]
      exact ⟨fun h => by rw [h], fun h => (V.str.inj h).symm⟩
    | non => cases r1; simp [eqS]
    | bl b => cases r1; simp [eqS]
    | int i => obtain ⟨t, rfl⟩ := r1; simp [eqS]
    | byt b => obtain ⟨t, rfl⟩ := r1; simp [eqS]
    | flt b => obtain ⟨t, rfl⟩ := r1; simp [eqS]
    | ref a => cases r1; simp [eqS]
    | ty n => cases r1; simp [eqS]
theorem op_inM {X : Cx} {K : PySem.W.Frag} (hq : QA X.A) (hK : X.K = K := by with_unfolding_all rfl) : OpR X (compareOp .In) (rInM K) := by
  subst hK
  intro pins s σ H x y v u Q I rx ry h
  obtain ⟨z, a, xs, rfl, rfl, hS, hI, q⟩ := h
  obtain ⟨t, rfl⟩ := rx
  cases ry
  obtain ⟨its, r, pl, hz⟩ := I.tuple hS
  have hu : X.A.in1.units < cLine := by have := hq.un; show X.A.units + 1 < _; omega
  have key : ∀ {xs : List V} {its : List Value}, Vals xs its → (∀ e ∈ xs, ItM X.K H e) → ∀ w ∈ its, SeqAt.EqAt X.A.in1 s w (.str z t) (eqS z w) := by
    intro xs its r
    induction r with
    | nil => intro _ w hw; cases hw
    | cons r1 r2 ih =>
      intro hI w hw
      rename_i x u xs us
      rcases List.mem_cons.mp hw with rfl | hw
      · rcases hI x (by simp) with rfl | ⟨b, rfl⟩ | ⟨i, rfl⟩ | ⟨b, rfl⟩ | ⟨a, ys, rfl, hl | ht⟩ | ⟨a, kvs, rfl, hd⟩
        · cases r1; exact SeqAt.EqAt.none_str z t
        · cases r1; exact SeqAt.EqAt.bool_str b z t
        · obtain ⟨t', rfl⟩ := r1; exact SeqAt.EqAt.int_str i t' z t
        · obtain ⟨t', rfl⟩ := r1; exact SeqAt.EqAt.str_str b t' z t
        · cases r1
          obtain ⟨its', _, pl', _⟩ := I.list hl
          exact SeqAt.EqAt.list_str z t pl'.isList hu
        · cases r1
          obtain ⟨its', _, pl', _⟩ := I.tuple ht
          exact SeqAt.EqAt.tuple_str z t pl' hu
        · cases r1
          obtain ⟨_, _, vs, _, o, es, ep, e1, ⟨e2, e3⟩, e4, _⟩ := (show ObjOk X.prog X.w H s.heap a (.dK kvs) from I.hok a _ hd)
          obtain ⟨c, dd, dt, sl⟩ := o
          dsimp only at e2 e4
          subst e2 e4
          exact eq_dict_str z t e1 hu
      · exact ih (fun e he => hI e (List.mem_cons_of_mem _ he)) w hw
  refine SeqAt.in_tupleAt (eqS z) pl (fun w hw => key r hI w (by simpa using hw)) ⟨.bl _, H, I, rfl, ?_⟩
  rw [show its.toArray.any (eqS z) = its.any (eqS z) by simp, any_eqS r]
  exact q
theorem i_inM {K : PySem.W.Frag} {H : Hp} {Q : VK} {z : Str} {a : Addr} {xs : List V} (h : SqT K H a xs) (hI : ∀ e ∈ xs, ItM K H e) (k : Q (.bl (decide (V.str z ∈ xs))) H) : rInM K (.str z) (.ref a) H Q := ⟨z, a, xs, rfl, rfl, h, hI, k⟩
end L2
set_option Elab.async false
set_option linter.all false
set_option maxRecDepth 100000
set_option maxHeartbeats 4000000
namespace L2
open PySem PySem.Spec PyProof.Rows
section
variable {prog : Program} {w : World} {A : Around} {E : Value → Shared → Prop} {s : Shared}
theorem bounds_runC {a c c' n : Nat} (hac : a ≤ c) (hcc : c = min c' n) : sliceBounds (some (a : Int)) (some (c' : Int)) none n = ((a : Int), (c : Int), 1) := by
  simp only [sliceBounds, Option.getD_none]
  have h1 : ¬ ((a : Int) < 0) := by omega
  have h2 : ¬ ((c' : Int) < 0) := by omega
  simp only [h1, h2, if_false, show (1 : Int) > 0 by decide, if_true]
  congr 1
  · omega
  · congr 1; omega
set_option maxRecDepth 100000 in
theorem setItem_sliceC {l b sl : Addr} {items new : Array Value} {n n2 : Nat} {vl vu : Value} {a c c' : Nat} {Q : Unit → Shared → Prop}
    (e : s.heap.get? l = some { cls := .type "list", data := .seq items n }) (e2 : s.heap.get? b = some { cls := .type "list", data := .seq new n2 }) (hne : l ≠ b)
    (hs : s.heap.IsSliceOf sl vl vu .none) (pl : IsPart vl (some (a : Int))) (pu : IsPart vu (some (c' : Int))) (hac : a ≤ c) (hc : c ≤ items.size) (hcc : c = min c' items.size)
    (hsz : items.size + new.size ≤ sizeLine) (h : Q () { s with heap := s.heap.update l (Obj.mapSeq fun xs => xs.extract 0 a ++ new ++ xs.extract c xs.size) }) :
    wpAny (model prog w) A (setItem (.ref l) (.ref sl) (.ref b)) Q E s := by
  have hl : s.heap.IsList l items := PySem.IsL.isList e
  have hb : s.heap.IsList b new := PySem.IsL.isList e2
  obtain ⟨os, hos, hcs, hds⟩ := id hs
  have hTs : s.TypeIs (.ref sl) "slice" := ⟨os, hos, hcs⟩
  have hstep : ¬ ((rawPart none == rawInt 0) = true) := Bool.false_ne_true
  have hsame : Builtin.List.listSameRef (.ref l) (.ref b) = false := by
    unfold Builtin.List.listSameRef
    exact beq_eq_false_iff_ne.mpr hne
  have hmax : (max (a : Int) (c : Int)).toNat = c := by omega
  have hz' : ((fun xs : Array Value => xs.extract 0 a ++ new ++ xs.extract c xs.size) items).size ≤ sizeLine + 1 := by
    simp only [Array.size_append, Array.size_extract]
    omega
  unfold setItem
  try with_reducible refine wpAny_holding ?_
  first | refine wpAny_bind (wpAny_pure ?_) | skip
  refine wpAny_bind (wpAny_sequenceKey hl.typeIs (by decide) ?_)
  refine wpAny_bind (wpAny_callSpecial?_slot (name := Str.ofString "__setitem__") hl.typeIs slot_list_setitem
    (wpAny_call_entry slot_list_setitem hl.typeIs entry_list_setitem ?_ (args_list_setitem _ _ _)))
  show wpAny _ _ (Builtin.List.listSubscript? (.ref sl) >>= _) _ _ s
  refine wpAny_bind ?_
  unfold Builtin.List.listSubscript?
  refine wpAny_bind (wpAny_specialOf hTs slice_no_index ?_)
  simp only [Option.isNone_none, if_true]
  refine wpAny_pure ?_
  show wpAny _ _ (typeOf (.ref sl) >>= _) _ _ s
  refine wpAny_bind (wpAny_typeOf hTs ?_)
  first
    | rw [if_neg (by decide)]
    | refine PySem.W.KFB.if_not (by decide) ?_
  rw [listSliceParts_eq]
  refine wpAny_bind (wpAny_bind (wpAny_field hos hds (x := .none) rfl (wpAny_bind (wpAny_listPart .none ?_))))
  rw [if_neg hstep]
  refine wpAny_bind (wpAny_field hos hds (x := vl) rfl (wpAny_bind (wpAny_listPart pl ?_)))
  refine wpAny_bind (wpAny_field hos hds (x := vu) rfl (wpAny_bind (wpAny_listPart pu (wpAny_pure ?_))))
  first
    | simp only [hsame, Bool.false_eq_true, if_false]
    | refine PySem.W.KFB.if_not hsame ?_
    | (dsimp only
       rw [if_neg (by rw [hsame]; exact Bool.false_ne_true)])
  refine wpAny_bind (m := Builtin.List.listAllItems (.ref b) "must assign iterable to extended slice") ?_
  unfold Builtin.List.listAllItems
  refine wpAny_bind (wpAny_typeOf hb.typeIs ?_)
  first
    | refine PySem.W.KFB.if_so (by decide) ?_
    | rw [if_pos (by decide)]
    | simp only [beq_self_eq_true, Bool.true_or, if_true]
  unfold Builtin.List.listItems
  refine wpAny_bind (wpAny_seqItems e2 rfl (wpAny_pure ?_))
  refine wpAny_bind (wpAny_bind (wpAny_seqItems e rfl (wpAny_pure ?_)))
  refine wpAny_bind (wpAny_of_eq ((sliceIndices_raw (some (a : Int)) (some (c' : Int)) none items.size (by simp)).trans (congrArg (pure : Int × Int × Int → Sem (Int × Int × Int)) (bounds_runC hac hcc))) ?_)
  show wpAny _ _ (if ((1 : Int) == 1) = true then _ else _) _ _ s
  rw [if_pos (by decide)]
  refine wpAny_bind (wpAny_rule ?_)
  first
    | simp only [notLongL hsz, Bool.false_eq_true, if_false]
    | refine PySem.W.KFB.if_not (notLongL hsz) ?_
  first | refine wpAny_bind (wpAny_pure ?_) | skip
  show wpAny _ _ (updateSeq l (fun xs => xs.extract 0 ((a : Int)).toNat ++ new ++ xs.extract (max (a : Int) (c : Int)).toNat xs.size) >>= _) _ _ s
  rw [hmax, Int.toNat_natCast]
  refine wpAny_bind (wpAny_updateSeq (hz := Nat.le_trans (Nat.le_add_right _ _) hsz) (_hz' := hz') e rfl ?_)
  refine wpAny_bind (wpAny_letGo ?_)
  first
    | exact wpAny_bind (wpAny_pure (wpAny_pure ⟨.none, rfl, wpAny_pure h⟩))
    | exact wpAny_pure ⟨.none, rfl, wpAny_pure h⟩
end
section
variable {X : Cx} {pos p2 : Pos}
noncomputable def gSlc (to : TE) (tl th : TO) : TG := fun v σ H Q => to σ H fun o H1 => tl σ H1 fun l H2 => th σ H2 fun u H3 => ∃ p b xs ys a c, o = .ref p ∧ v = .ref b ∧ l = some a ∧ u = some c ∧ H3 p = some (.lst xs) ∧ H3 b = some (.lst ys) ∧ p ≠ b ∧ 0 ≤ a ∧ a ≤ c ∧ a ≤ (xs.length : Int) ∧ xs.length + ys.length ≤ sizeLine ∧ Q σ (upd H3 p (.lst (xs.take a.toNat ++ ys ++ xs.drop c.toNat)))
theorem pg_slc {o : Expr} {lo hi : Option Expr} {to : TE} {tl th : TO} (ho : PE X o to) (hl : PO X lo tl) (hh : PO X hi th)
    (ha : ∀ v, assign (.Subscript o (.Slice lo hi none p2) pos) X.env v = (do
      let ov ← holding [v] (eval o X.env)
      let iv ← holding [v, ov] (eval (.Slice lo hi none p2) X.env)
      standAt pos
      holding [v, ov, iv] (setItem ov iv v)
      release [iv, v, ov] []) := by intro _; with_unfolding_all rfl) : PG X (.Subscript o (.Slice lo hi none p2) pos) (gSlc to tl th) := by
  intro pins s σ H v u Q I r h
  rw [ha]
  refine wpAny_bind (wpAny_holding (thn (ho pins s σ H _ I h) fun ov s1 ⟨x, H1, I1, r1, q1⟩ => ?_))
  refine wpAny_bind (wpAny_holding (wpAny_Slice (thn (hl pins s1 σ H1 _ I1 q1) fun vl s2 ⟨l, H2, I2, pl, q2⟩ => thn (hh pins s2 σ H2 _ I2 q2) fun vu s3 ⟨w, H3, I3, pu, q3⟩ => ?_)))
  rw [evalPart_none]
  refine wpAny_pure ?_
  obtain ⟨p, b, xs, ys, a, c, rfl, rfl, rfl, rfl, hp, hb, hne, h0, hac, hax, hz, q⟩ := q3
  cases r1
  cases r
  have I4 : Inv X pins σ H3 { s3 with heap := s3.heap.push { cls := .type "slice", data := .fields #[vl, vu, .none] } } := I3.kept (t' := s3.toks) fun b ob q => Heap.get?_push_of_some _ q
  refine wpAny_bind (wpAny_standAt (wpAny_bind (wpAny_holding ?_)))
  obtain ⟨its, n, r4, e4, z4⟩ := I4.lst hp
  obtain ⟨its2, n2, r5, e5, z5⟩ := I4.lst hb
  obtain ⟨a', rfl⟩ := Int.eq_ofNat_of_zero_le h0
  obtain ⟨c', rfl⟩ := Int.eq_ofNat_of_zero_le (Int.le_trans h0 hac)
  have l4 := r4.length
  have l5 := r5.length
  simp only [Int.toNat_natCast] at q
  refine setItem_sliceC (a := a') (c := min c' its.length) (c' := c') e4 e5 hne (Heap.IsSliceOf.new ..) pl pu (by omega) (by rw [List.size_toArray]; omega) (by rw [List.size_toArray]) (by rw [List.size_toArray, List.size_toArray]; omega) (wpAny_release ⟨σ, _, ?_, q⟩)
  have hd : xs.drop c' = xs.drop (min c' its.length) := by
    by_cases h : c' ≤ its.length
    · rw [Nat.min_eq_left h]
    · rw [Nat.min_eq_right (by omega), List.drop_eq_nil_of_le (by omega), List.drop_eq_nil_of_le (by omega)]
  rw [hd]
  refine I4.lset (its' := its.take a' ++ its2 ++ its.drop (min c' its.length)) (t' := s3.toks) hp e4 ?_ (Vals.append (Vals.append (r4.take _) r5) (r4.drop _)) ?_
  · exact splice_eq its its2 a' (min c' its.length)
  · rw [List.length_append, List.length_append, List.length_take, List.length_drop]
    omega
theorem i_gSlc {to : TE} {tl th : TO} {v : V} {σ : St} {H : Hp} {Q : St → Hp → Prop} (k : to σ H fun o H1 => tl σ H1 fun l H2 => th σ H2 fun u H3 => ∃ p b xs ys a c, o = .ref p ∧ v = .ref b ∧ l = some a ∧ u = some c ∧ H3 p = some (.lst xs) ∧ H3 b = some (.lst ys) ∧ p ≠ b ∧ 0 ≤ a ∧ a ≤ c ∧ a ≤ (xs.length : Int) ∧ xs.length + ys.length ≤ sizeLine ∧ Q σ (upd H3 p (.lst (xs.take a.toNat ++ ys ++ xs.drop c.toNat)))) : gSlc to tl th v σ H Q := k
theorem i_slc {p b : Addr} {xs ys : List V} {a c : Int} {σ : St} {H : Hp} {Q : St → Hp → Prop} (hp : H p = some (.lst xs)) (hb : H b = some (.lst ys)) (hne : p ≠ b) (h0 : 0 ≤ a) (hac : a ≤ c) (hax : a ≤ (xs.length : Int)) (hz : xs.length + ys.length ≤ sizeLine)
    (k : ∀ H', ExtBut p H H' → H' p = some (.lst (xs.take a.toNat ++ ys ++ xs.drop c.toNat)) → Q σ H') :
    ∃ p' b' xs' ys' a' c', V.ref p = .ref p' ∧ V.ref b = .ref b' ∧ some a = some a' ∧ some c = some c' ∧ H p' = some (.lst xs') ∧ H b' = some (.lst ys') ∧ p' ≠ b' ∧ 0 ≤ a' ∧ a' ≤ c' ∧ a' ≤ (xs'.length : Int) ∧ xs'.length + ys'.length ≤ sizeLine ∧ Q σ (upd H p' (.lst (xs'.take a'.toNat ++ ys' ++ xs'.drop c'.toNat))) :=
  ⟨p, b, xs, ys, a, c, rfl, rfl, rfl, rfl, hp, hb, hne, h0, hac, hax, hz, k _ ExtBut.upd upd_same⟩
theorem i_gSub {to ti : TE} {t : TSet} {v : V} {σ : St} {H : Hp} {Q : St → Hp → Prop} (k : to σ H fun o H1 => ti σ H1 fun i H2 => t o i v H2 fun H3 => Q σ H3) : gSub to ti t v σ H Q := k
theorem i_setL {p : Addr} {xs : List V} {j : Nat} {v : V} {H : Hp} {Q : Hp → Prop} (hp : H p = some (.lst xs)) (hj : j < xs.length) (hz : xs.length ≤ 1000000) (k : ∀ H', ExtBut p H H' → H' p = some (.lst (xs.set j v)) → Q H') : rSetL (.ref p) (.int (j : Int)) v H Q :=
  ⟨p, xs, j, j, rfl, rfl, hp, by
    unfold ixN
    simp
    omega, k _ ExtBut.upd upd_same⟩
end
end L2
set_option Elab.async false
set_option linter.all false
set_option maxRecDepth 100000
set_option maxHeartbeats 4000000
namespace L2
open PySem PySem.Spec PyProof.Rows
theorem meets_zipLL (a b : Addr) (xs ys : Array Value) :
    Meets (Builtin.«zip.__new__» ⟨[.type "zip", .ref a, .ref b], []⟩) (fun _ R s => s.heap.IsList a xs ∧ s.heap.IsList b ys ∧ R (.ok (.ret (.ref (zp3 s.heap (liO a) (liO b)).objs.size))) { s with heap := zp4 s.heap (liO a) (liO b) }) :=
  .of_wp fun prog w A R s both => by
    obtain ⟨hp, g, d, tk, os⟩ := s
    obtain ⟨ha, hb, go⟩ := both
    have hsub := sub_zip
    have hA : Heap.IsList (Shared.heap ⟨hp, g, d, tk, os⟩) a xs := ha
    have hB : Heap.IsList (Shared.heap ⟨hp.push (liO a), g, d, tk, os⟩) b ys := Heap.IsList.push hb _
    wp_walk using wpAny_pyIter_list hA, wpAny_pyIter_list hB
    exact ⟨_, rfl, go⟩
section
variable {P : Program} {w : World} {A : Around} {E : Value → Shared → Prop} {z : Shared}
theorem call_zipLL {a b : Addr} {xs ys : Array Value} {Q : Value → Shared → Prop} (ha : z.heap.IsList a xs) (hb : z.heap.IsList b ys)
    (go : ∀ g, ZipAt g (z.heap.objs.size + 4) (z.heap.objs.size + 2) (z.heap.objs.size + 3) .none false → IsPair g (z.heap.objs.size + 2) (.ref z.heap.objs.size) (.ref (z.heap.objs.size + 1)) → IsPair g (z.heap.objs.size + 3) .none .none →
      g.get? z.heap.objs.size = some (liO a) → g.get? (z.heap.objs.size + 1) = some (liO b) → g.objs.size = z.heap.objs.size + 5 → (∀ b o, z.heap.get? b = some o → g.get? b = some o) → Q (.ref (z.heap.objs.size + 4)) { z with heap := g }) :
    wpAny (model P w) A (call (.type "zip") [.ref a, .ref b]) Q E z := by
  refine callType_new F.called_zip (by decide) (F.typeCall_zip_2 _ _) (F.newCall_zip_2 _ _) (fun obj => F.args_object_init_3 obj _ _) F.entry_zip_new (meets_zipLL a b xs ys) ⟨ha, hb, ?_⟩
  refine zp_facts (Q := fun v s' => s'.TypeIs v "zip" ∧ Q v s') rfl (fun g g5 g3 g4 g1 g2 z5 kp => ⟨⟨_, g5, rfl⟩, go g g5 g3 g4 g1 g2 z5 kp⟩) rfl rfl
end
noncomputable def rDictZL (K : PySem.W.Frag) : List V → Hp → VK → Prop := fun xs H Q => ∃ (a b : Addr) (ns : List Str) (ys : List V), xs = [.ref a, .ref b] ∧ SqL K H a (ns.map V.str) ∧ SqL K H b ys ∧ ys.length = ns.length ∧ ns.length ≤ 1000000 ∧
  ∀ p, H p = none → Q (.ref p) (upd H p (.dK (mergeK [] (zipK ns ys))))
section
variable {X : Cx} {K : PySem.W.Frag}
theorem dict_zip_anyL {pins : List (Addr × Obj)} {σ : St} {H : Hp} {s : Shared} {Q : VK} (calm : X.A.handled = none) (I : Inv X pins σ H s) {a b : Addr} {ns : List Str} {ys : List V} {g : Heap} {ks vs : List Value} {o2 : Obj} {S2 : Nat → Heap → Prop}
    (ha : s.heap.IsList a ks.toArray) (hb : b < s.heap.objs.size) (hk : Vals (ns.map V.str) ks) (hv : Vals ys vs) (hl : ys.length = ns.length) (hz : ns.length ≤ 1000000)
    (D2 : Draws X.prog X.w X.A.in1.in1.in1 (s.heap.objs.size + 1) [s.heap.objs.size + 1, b] vs.toArray.size (fun i v => vs.toArray[i]? = some v) S2) (h2 : S2 0 g)
    (g5 : ZipAt g (s.heap.objs.size + 4) (s.heap.objs.size + 2) (s.heap.objs.size + 3) .none false) (g3 : IsPair g (s.heap.objs.size + 2) (.ref s.heap.objs.size) (.ref (s.heap.objs.size + 1))) (g4 : IsPair g (s.heap.objs.size + 3) .none .none)
    (g1 : g.get? s.heap.objs.size = some (liO a)) (g2 : g.get? (s.heap.objs.size + 1) = some o2) (z5 : g.objs.size = s.heap.objs.size + 5) (kp : ∀ b o, s.heap.get? b = some o → g.get? b = some o)
    (q : ∀ p, H p = none → Q (.ref p) (upd H p (.dK (mergeK [] (zipK ns ys))))) :
    wpAny (model X.prog X.w) X.A (call (.type "dict") [.ref (s.heap.objs.size + 4)]) (EP X pins σ Q) X.xe { s with heap := g } := by
  have hal : a < s.heap.objs.size := let ⟨o, ho, _⟩ := ha; Heap.lt_size ho
  have lk := hk.length
  have lv := hv.length
  rw [List.length_map] at lk
  obtain ⟨al, a1, a2, a3⟩ := zip_al hk hv hl
  have D1 := Draws.list (prog := X.prog) (w := X.w) (A := X.A.in1.in1.in1) (by simpa using calm) s.heap.objs.size a (Nat.ne_of_lt hal) ks.toArray
  have n1 : ks.toArray.size = ns.length := by simp; omega
  have n2 : vs.toArray.size = ns.length := by simp; omega
  rw [n1] at D1
  rw [n2] at D2
  have O : ZipOff (s.heap.objs.size + 4) (s.heap.objs.size + 3) s.heap.objs.size (s.heap.objs.size + 1) g.objs.size [s.heap.objs.size, a] [s.heap.objs.size + 1, b] := by
    rw [z5]
    exact off_new _ a b hal hb
  refine dict_of_zip (z := { s with heap := g }) (kd := mixKind X.prog X.w) calm O D1 D2 al a1 hz (fun i kv hi x y hx hy => a3 i kv hi x y (by simpa using hx) (by simpa using hy)) g5 g3 g4 ⟨⟨_, g1, rfl, rfl⟩, ha.at fun o e => kp a o e⟩ h2 (Nat.ne_of_lt (show (_ : Nat) < _ by omega)) (Nat.ne_of_lt (show (_ : Nat) < _ by omega)) (Nat.ne_of_gt (show (_ : Nat) < _ by omega)) (Nat.ne_of_gt (show (_ : Nat) < _ by omega)) fun g' tk hD hk' => ?_
  have keep : ∀ b o, s.heap.get? b = some o → g'.get? b = some o := fun b o e => by
    have lt : LT.lt (α := Nat) b s.heap.objs.size := Heap.lt_size e
    exact hk' b o (Nat.ne_of_lt (show LT.lt (α := Nat) _ _ by omega)) (Nat.ne_of_lt (show LT.lt (α := Nat) _ _ by omega)) (Nat.ne_of_lt (show LT.lt (α := Nat) _ _ by omega)) (Nat.ne_of_lt (show LT.lt (α := Nat) _ _ by omega)) (kp b o e)
  refine ⟨.ref g.objs.size, _, I.laid (t' := tk) keep (by rw [z5]; omega) (dk_new ?_ ?_ (KV.merge a2 .nil) hD), rfl, q _ (I.hok.fresh (by rw [z5]; omega))⟩
  · have := length_mergeK (zipK ns ys) []
    have e : (zipK ns ys).length ≤ ns.length := by unfold zipK; rw [List.length_map, List.length_zip]; omega
    exact line_of (by simp at this; omega)
  · have := I.big
    exact beq_eq_false_iff_ne.mpr (Nat.ne_of_gt (show LT.lt (α := Nat) _ _ by rw [z5]; exact Nat.lt_of_lt_of_le this (Nat.le_add_right _ _)))
theorem pe_dictZipL {ea eb : Expr} {ta : TA} {p p2 pos pos2 : Pos} (calm : X.A.handled = none) (hg : Gl X "dict") (hm : X.mg "dict" = none) (hg2 : Gl X "zip") (hm2 : X.mg "zip" = none) (ha : PA X [ea, eb] ta) (hK : X.K = K := by with_unfolding_all rfl)
    (hs : starEach [.Call (.Name "zip" p2) [ea, eb] [] pos2] X.env = [(false, eval (.Call (.Name "zip" p2) [ea, eb] [] pos2) X.env)] := by with_unfolding_all rfl)
    (hs2 : starEach [ea, eb] X.env = (false, eval ea X.env) :: starEach [eb] X.env := by with_unfolding_all rfl) (hpl : (backTo pos2 (starEach [eb] X.env)).any (·.1) = false := by with_unfolding_all rfl) :
    PE X (.Call (.Name "dict" p) [.Call (.Name "zip" p2) [ea, eb] [] pos2] [] pos) (tCB (rDictZL K) ta) := by
  subst hK
  intro pins s σ H Q I h
  refine wpAny_Call_Name_kw (ld_blt I hg hm PyProof.Rows.Boot.«dict» (PyProof.Rows.callWith_type1 ?_ hs rfl))
  rw [hs]
  show wpAny _ _ (spliced [(false, eval (.Call (.Name "zip" p2) [ea, eb] [] pos2) X.env)]) _ _ s
  refine Calls.spliced_cons ?_
  refine wpAny_Call_Name_kw (ld_blt I hg2 hm2 PyProof.Rows.Boot.«zip» (PyProof.Rows.callWith_type1 (thn (ha pos2 pins s σ H _ I h) fun us s1 ⟨vs, H1, I1, r1, q1⟩ => ?_) hs2 hpl))
  obtain ⟨a, b, ns, ys, rfl, hA, hB, hl, hz, q⟩ := q1
  obtain ⟨u1, u2, rfl, ra, rb⟩ := Vals.two r1
  cases ra
  cases rb
  obtain ⟨ks, rk, hta, _⟩ := I1.list hA
  obtain ⟨vs, rv, htb, _⟩ := I1.list hB
  have hla := hta.isList
  have hlb := htb.isList
  have hbl : b < s1.heap.objs.size := let ⟨_, q, _⟩ := hlb; Heap.lt_size q
  refine call_zipLL hla hlb fun g g5 g3 g4 g1 g2 z5 kp => Calls.spliced_nil ?_
  have D2 := Draws.list (prog := X.prog) (w := X.w) (A := X.A.in1.in1.in1) (by simpa using calm) (s1.heap.objs.size + 1) b (Nat.ne_of_lt (Nat.lt_succ_of_lt hbl)) vs.toArray
  exact dict_zip_anyL calm I1 hla hbl rk rv hl hz D2 ⟨⟨_, g2, rfl, rfl⟩, hlb.at fun o e => kp b o e⟩ g5 g3 g4 g1 g2 z5 kp q
end
section
variable {K : PySem.W.Frag} {H : Hp} {Q : VK}
theorem i_dictZipL {a b : Addr} {ns : List Str} {ys : List V} (hA : SqL K H a (ns.map V.str)) (hB : SqL K H b ys) (hl : ys.length = ns.length) (hn : ns.Nodup) (hz : ns.length ≤ 1000000)
    (k : ∀ p H', H p = none → Same H H' → H' p = some (.dK (zipK ns ys)) → Q (.ref p) H') : rDictZL K [.ref a, .ref b] H Q := by
  refine ⟨a, b, ns, ys, rfl, hA, hB, hl, hz, fun p hp => ?_⟩
  have e : mergeK [] (zipK ns ys) = zipK ns ys := by
    rw [merge_new _ [] (by rw [zipK_keys hl]; exact nodup_map_on hn fun x _ y _ e => by injection e) (fun _ _ _ h => by cases h)]
    rfl
  rw [e]
  exact k p _ hp (Same.upd hp) upd_same
end
end L2
set_option Elab.async false
set_option linter.all false
set_option maxRecDepth 100000
set_option maxHeartbeats 4000000
namespace L2
open PySem PySem.Spec PyProof.Rows
mutual
def flatD : PyData → Bool
  | .list _ => false
  | .dict _ => false
  | .tuple ds => flatL ds
  | _ => true
def flatL : List PyData → Bool
  | [] => true
  | d :: ds => flatD d && flatL ds
end
noncomputable def dsK (rs : List (Str × Str)) : List (Key × V) := rs.map fun p => (Sum.inr p.1, .str p.2)
section
variable {X : Cx} {pins : List (Addr × Obj)} {σ : St} {H : Hp} {s : Shared}
end
structure Fd (d : PyData) : Prop where
  sh : d.showable = true
  lv : d.leavesShort 13 = true
  dp : d.depth ≤ 20
  wt : d.weight ≤ 5000
theorem Fd.fits {d : PyData} (h : Fd d) : d.shown.length ≤ sizeLine := by
  have h2 := PyData.shown_le 13 (by decide) d h.lv
  have := h.wt
  rw [sizeLine_eq]
  omega
theorem fd_tup {ds : List PyData} (hs : PyData.showableAll ds = true) (hl : PyData.leavesShortAll 13 ds = true) (hd : PyData.depthAll ds ≤ 19) (hw : PyData.weightAll ds ≤ 5000) : Fd (.tuple ds) :=
  ⟨by simpa only [PyData.showable] using hs, by simpa only [PyData.leavesShort] using hl, by simp only [PyData.depth]; omega, by simpa only [PyData.weight] using hw⟩
end L2
set_option Elab.async false
set_option linter.all false
set_option maxRecDepth 100000
set_option maxHeartbeats 4000000
namespace L2
open PySem PySem.Spec PyProof.Rows
noncomputable def rEqL0 (K : PySem.W.Frag) : R2 := fun x y H Q => ∃ a b xs, x = .ref a ∧ y = .ref b ∧ SqL K H a xs ∧ SqL K H b [] ∧ Q (.bl xs.isEmpty) H
theorem op_eqL0 {X : Cx} {K : PySem.W.Frag} (hq : QA X.A) (hK : X.K = K := by with_unfolding_all rfl) : OpR X (compareOp .Eq) (rEqL0 K) := by
  subst hK
  intro pins s σ H x y v u Q I rx ry h
  obtain ⟨a, b, xs, rfl, rfl, ha, hb, q⟩ := h
  cases rx
  cases ry
  obtain ⟨its, rv, la, _⟩ := I.list ha
  obtain ⟨its2, rv2, lb, _⟩ := I.list hb
  cases rv2
  have hu : X.A.units < cLine := by have := hq.un; omega
  have la' : s.heap.IsList a its.toArray := let ⟨o, n, e1, e2, e3, e4⟩ := la; ⟨o, e1, e2, _, e4⟩
  have lb' : s.heap.IsList b ([] : List Value).toArray := let ⟨o, n, e1, e2, e3, e4⟩ := lb; ⟨o, e1, e2, _, e4⟩
  cases xs with
  | nil =>
    cases rv
    exact SeqAt.eq_listAt (e := fun _ => true) la' lb' rfl hu (fun j h1 => absurd h1 (by simp)) ⟨.bl _, H, I, rfl, q⟩
  | cons x r =>
    cases rv with
    | cons r1 r2 => exact SeqAt.eq_list_lengthsAt la' lb' (by simp) hu ⟨.bl _, H, I, rfl, q⟩
theorem i_eqL0 {K : PySem.W.Frag} {H : Hp} {Q : VK} {a b : Addr} {xs : List V} (h : SqL K H a xs) (h' : SqL K H b []) (k : Q (.bl xs.isEmpty) H) : rEqL0 K (.ref a) (.ref b) H Q := ⟨a, b, xs, rfl, rfl, h, h', k⟩
end L2
set_option Elab.async false
set_option linter.all false
set_option maxRecDepth 100000
set_option maxHeartbeats 4000000
namespace K35
open PySem L2 PySem.Spec PyProof.Rows
noncomputable def top (i : Nat) : Stmt := PySem.Challenge.pw_halforder_k35_apart_and_ways_between.main.body.getD i (.Pass ⟨0, 0, 0, 0⟩)
noncomputable abbrev s_is_order : Stmt := top 7
theorem sc_is_order : FnScope ["half", "thing"] ["half", "thing"] (defScope s_is_order) := ⟨rfl, rfl, rfl, by decide +kernel, rfl, by decide +kernel, by decide +kernel⟩
noncomputable abbrev s_refuse_no_order : Stmt := top 8
theorem sc_refuse_no_order : FnScope ["half", "thing"] ["half", "thing"] (defScope s_refuse_no_order) := ⟨rfl, rfl, rfl, by decide +kernel, rfl, by decide +kernel, by decide +kernel⟩
noncomputable abbrev s_pairs_apart : Stmt := top 10
theorem sc_pairs_apart : FnScope ["one", "other", "row", "found", "place", "seat"] ["one", "other"] (defScope s_pairs_apart) := ⟨rfl, rfl, rfl, by decide +kernel, rfl, by decide +kernel, by decide +kernel⟩
noncomputable abbrev s_apart : Stmt := top 11
theorem sc_apart : FnScope ["half", "one", "other"] ["half", "one", "other"] (defScope s_apart) := ⟨rfl, rfl, rfl, by decide +kernel, rfl, by decide +kernel, by decide +kernel⟩
noncomputable abbrev s_swapped : Stmt := top 12
theorem sc_swapped : FnScope ["order", "place"] ["order", "place"] (defScope s_swapped) := ⟨rfl, rfl, rfl, by decide +kernel, rfl, by decide +kernel, by decide +kernel⟩
noncomputable abbrev s_step_towards : Stmt := top 13
theorem sc_step_towards : FnScope ["order", "goal", "place"] ["order", "goal"] (defScope s_step_towards) := ⟨rfl, rfl, rfl, by decide +kernel, rfl, by decide +kernel, by decide +kernel⟩
noncomputable abbrev s_way_between : Stmt := top 14
theorem sc_way_between : FnScope ["half", "one", "other", "way"] ["half", "one", "other"] (defScope s_way_between) := ⟨rfl, rfl, rfl, by decide +kernel, rfl, by decide +kernel, by decide +kernel⟩
noncomputable abbrev s__law_feed : Stmt := top 16
theorem sc__law_feed : FnScope ["_law_script"] ["_law_script"] (defScope s__law_feed) := ⟨rfl, rfl, rfl, by decide +kernel, rfl, by decide +kernel, by decide +kernel⟩
noncomputable abbrev s__law_draw : Stmt := top 17
theorem sc__law_draw : FnScope ["_law_feed_here", "_law_many", "_law_found", "_law_cell", "_law_mixed"] ["_law_feed_here", "_law_many"] (defScope s__law_draw) := ⟨rfl, rfl, rfl, by decide +kernel, rfl, by decide +kernel, by decide +kernel⟩
noncomputable abbrev s__law_shuffled : Stmt := top 18
theorem sc__law_shuffled : FnScope ["_law_feed_here", "_law_some", "_law_left", "_law_found", "_law_k"] ["_law_feed_here", "_law_some"] (defScope s__law_shuffled) := ⟨rfl, rfl, rfl, by decide +kernel, rfl, by decide +kernel, by decide +kernel⟩
noncomputable abbrev s__law_names : Stmt := top 19
theorem sc__law_names : FnScope ["_law_feed_here", "_law_letters", "_law_way", "_law_start", "_law_size", "_law_at", "_law_some", "_law_head", "_law_tail"] ["_law_feed_here"] (defScope s__law_names) := ⟨rfl, rfl, rfl, by decide +kernel, rfl, by decide +kernel, by decide +kernel⟩
noncomputable abbrev s__law_is_laid : Stmt := top 20
theorem sc__law_is_laid : FnScope ["_law_feed_here", "_law_way", "_law_j", "_law_k", "_law_many"] ["_law_feed_here", "_law_way", "_law_j", "_law_k", "_law_many"] (defScope s__law_is_laid) := ⟨rfl, rfl, rfl, by decide +kernel, rfl, by decide +kernel, by decide +kernel⟩
noncomputable abbrev s__law_half : Stmt := top 21
theorem sc__law_half : FnScope ["_law_feed_here", "_law_many", "_law_names_here", "_law_line", "_law_way", "_law_sayings", "_law_k", "_law_j", "_law_pair"] ["_law_feed_here", "_law_many"] (defScope s__law_half) := ⟨rfl, rfl, rfl, by decide +kernel, rfl, by decide +kernel, by decide +kernel⟩
noncomputable abbrev s__law_over : Stmt := top 22
theorem sc__law_over : FnScope ["_law_half_here", "_law_found", "_law_more", "_law_one", "_law_other", "_law_fresh"] ["_law_half_here"] (defScope s__law_over) := ⟨rfl, rfl, rfl, by decide +kernel, rfl, by decide +kernel, by decide +kernel⟩
noncomputable abbrev s__law_next_ones : Stmt := top 23
theorem sc__law_next_ones : FnScope ["_law_half_here", "_law_over_here", "_law_begun", "_law_left"] ["_law_half_here", "_law_over_here", "_law_begun"] (defScope s__law_next_ones) := ⟨rfl, rfl, rfl, by decide +kernel, rfl, by decide +kernel, by decide +kernel⟩
noncomputable abbrev s__law_an_order : Stmt := top 24
theorem sc__law_an_order : FnScope ["_law_feed_here", "_law_half_here", "_law_over_here", "_law_found", "_law_some"] ["_law_feed_here", "_law_half_here", "_law_over_here"] (defScope s__law_an_order) := ⟨rfl, rfl, rfl, by decide +kernel, rfl, by decide +kernel, by decide +kernel⟩
noncomputable abbrev s__law_is_order : Stmt := top 25
theorem sc__law_is_order : FnScope ["_law_half_here", "_law_over_here", "_law_thing"] ["_law_half_here", "_law_over_here", "_law_thing"] (defScope s__law_is_order) := ⟨rfl, rfl, rfl, by decide +kernel, rfl, by decide +kernel, by decide +kernel⟩
noncomputable abbrev s__law_bent : Stmt := top 26
theorem sc__law_bent : FnScope ["_law_feed_here", "_law_half_here", "_law_order", "_law_row", "_law_way", "_law_at", "_law_odd", "_law_k", "_law_j"] ["_law_feed_here", "_law_half_here", "_law_order"] (defScope s__law_bent) := ⟨rfl, rfl, rfl, by decide +kernel, rfl, by decide +kernel, by decide +kernel⟩
noncomputable abbrev s__law_apart : Stmt := top 27
theorem sc__law_apart : FnScope ["_law_one", "_law_other", "_law_many", "_law_k"] ["_law_one", "_law_other"] (defScope s__law_apart) := ⟨rfl, rfl, rfl, by decide +kernel, rfl, by decide +kernel, by decide +kernel⟩
noncomputable abbrev s__law_is_swap : Stmt := top 28
theorem sc__law_is_swap : FnScope ["_law_one", "_law_other", "_law_spots"] ["_law_one", "_law_other"] (defScope s__law_is_swap) := ⟨rfl, rfl, rfl, by decide +kernel, rfl, by decide +kernel, by decide +kernel⟩
noncomputable abbrev s__law_way_right : Stmt := top 29
theorem sc__law_way_right : FnScope ["_law_half_here", "_law_over_here", "_law_one", "_law_other", "_law_found"] ["_law_half_here", "_law_over_here", "_law_one", "_law_other"] (defScope s__law_way_right) := ⟨rfl, rfl, rfl, by decide +kernel, rfl, by decide +kernel, by decide +kernel⟩
noncomputable abbrev s__law_refused : Stmt := top 30
theorem sc__law_refused : FnScope ["_law_word", "_law_half_here", "_law_one", "_law_other", "_law_kinds", "e"] ["_law_word", "_law_half_here", "_law_one", "_law_other"] (defScope s__law_refused) := ⟨rfl, rfl, rfl, by decide +kernel, rfl, by decide +kernel, by decide +kernel⟩
noncomputable abbrev s_law : Stmt := top 31
theorem sc_law : FnScope ["_law_script", "_law_feed_here", "_law_turn", "_law_half_here", "_law_over_here", "_law_one", "_law_other", "_law_ahead", "_law_k", "_law_thing", "_law_asked"] ["_law_script"] (defScope s_law) := ⟨rfl, rfl, rfl, by decide +kernel, rfl, by decide +kernel, by decide +kernel⟩
structure TopF (mg : Str → Option Value) : Prop where
  b_ValueError : mg "ValueError" = none
  b_all : mg "all" = none
  b_dict : mg "dict" = none
  b_enumerate : mg "enumerate" = none
  b_int : mg "int" = none
  b_isinstance : mg "isinstance" = none
  b_len : mg "len" = none
  b_list : mg "list" = none
  b_range : mg "range" = none
  b_repr : mg "repr" = none
  b_sorted : mg "sorted" = none
  b_str : mg "str" = none
  b_tuple : mg "tuple" = none
  b_zip : mg "zip" = none
structure Xls_HalfError (K : PySem.W.Frag) (mg : Str → Option Value) (C B : Addr) : Prop where
  xc : XC K C
  gl : mg "HalfError" = some (.ref C)
  mk0 : Mkx0 K mg C "HalfError"
structure Xls_NoName (K : PySem.W.Frag) (mg : Str → Option Value) (C B : Addr) : Prop where
  xc : XC K C
  gl : mg "NoName" = some (.ref C)
  mr : xcMro K C B = true
  n_name : NoAttr K C "name"
structure Xls_TooMany (K : PySem.W.Frag) (mg : Str → Option Value) (C B : Addr) : Prop where
  xc : XC K C
  gl : mg "TooMany" = some (.ref C)
  mr : xcMro K C B = true
  n_word : NoAttr K C "word"
structure Xls_NoPlace (K : PySem.W.Frag) (mg : Str → Option Value) (C B : Addr) : Prop where
  xc : XC K C
  gl : mg "NoPlace" = some (.ref C)
  mr : xcMro K C B = true
  n_number : NoAttr K C "number"
structure Xls_NoOrder (K : PySem.W.Frag) (mg : Str → Option Value) (C B : Addr) : Prop where
  xc : XC K C
  gl : mg "NoOrder" = some (.ref C)
  mr : xcMro K C B = true
  mk0 : Mkx0 K mg C "NoOrder"
section
variable {P : Program} {w : World} {K : PySem.W.Frag} {mg : Str → Option Value} {base : Heap}
local macro_rules | `(tactic| walk_at "lk") => L2.mRows "as | Same.lk e h: e=as h=lk | ExtBut.lk e h n: e=as n=ne h=lk | no"
local macro_rules | `(tactic| walk_at "ne") => L2.mRows "as | Ne.symm q: q=as | ne_of_none h g: g=as h=lk | ne_none2 h g: g=as h=lk | ne_of h g z: h=as g=as z=nc | no"
local macro_rules | `(tactic| walk_at "nc") => `(tactic| (intro z; cases z))
local macro_rules | `(tactic| walk_at "fr") => L2.mRows "ExtBut.refl | ExtBut.trans a b: b=as a=fr | ExtBut.same a b: b=as a=fr | ExtBut.off a q b: b=as q=as a=fr | no"
local macro_rules | `(tactic| walk_at "sm") => L2.mRows "same_refl | Same.trans a b: b=as a=sm | Same.off a q b: b=as q=as a=sm | no"
local macro_rules | `(tactic| walk_at "fd") => L2.mRows "as | Feed.same h e: e=as h=fd | Feed.off h e q f: e=as q=as f=as h=fd | no"
local macro_rules | `(tactic| walk_at "fz1") => L2.mRows "Same.fz b: b=as | ExtBut.fzL b l: b=as l=lk | ExtBut.fzD b l: b=as l=lk | Feed.fz f b: b=as f=fd | no"
local macro_rules | `(tactic| walk_at "fz") => L2.mRows "fz_refl | Fz.trans a x: x=fz1 a=fz | no"
local macro_rules | `(tactic| walk_at "sd") => `(tactic| first | omega | (show (0 : Int) < _; omega) | (unfold CDiv; omega) | (unfold CMul; omega) | (unfold CPow; omega) | (unfold CPow; decide) | (refine ⟨?_, ?_⟩ <;> omega) | decide)
local macro_rules | `(tactic| walk_at "sz") => `(tactic| first | decide | exact line_of (by omega) | (rw [sizeLine_eq]; omega))
local macro_rules | `(tactic| walk_at "kv") => `(tactic| rfl)
local macro_rules | `(tactic| walk_at "rq1") => do
  let a ← L2.mAlts "i_asg i_gname i_ret i_drop i_if i_op i_un i_call i_cb i_cons i_nil i_c i_put i_tTest i_tB i_not i_and i_or i_tup i_lst i_next i_sl i_noPart i_part i_int i_for i_rng1 i_rng2 i_comp i_itS i_iany i_ienum i_ienumL i_irev i_chain i_andV i_orV i_notV i_dget1 i_tAt i_sSt i_tMe i_tMk i_tTru i_dget2 i_iDT i_bmT i_rU i_rI0 i_addI i_bl i_bm i_bm0 i_reprKB i_isN i_isNotN i_isB i_isNotB i_true i_tyS i_find i_intB i_inS i_pair i_pair0 iteR iteNR iteNbb itebb iteT iteF iteNT iteNF"
  let b ← L2.mRows "i_var w _: w=kv | i_rI w _: w=sd | i_mulBI w _: w=sd | i_tyLm w _: w=lk | i_ixD w v _: w=lk v=kv | i_eqS w _: w=kv | i_neS w _: w=kv | i_slS w _: w=sz | i_addS w _: w=sz | i_lenS w _: w=sz | i_lenL w _: w=lk | i_lenT w _: w=lk | i_cutN w _: w=ar"
  let c ← L2.mAltG "i_seqAG i_seqDG i_seqPG"
  `(tactic| first | $c:tactic | $a:tactic | $b:tactic)
local macro_rules | `(tactic| walk_at "rd1") => `(tactic| first | with_reducible refine i_seqG fun N hN => ?_ | walk_at "rq1")
local macro_rules | `(tactic| walk_at "rq") => `(tactic| repeat (walk_at "rq1"))
local macro_rules | `(tactic| walk_at "rd") => `(tactic| repeat (walk_at "rd1"))
noncomputable def feedKvs (l : Addr) (a t u : Int) : List (Key × V) := [(Sum.inr "script", .ref l), (Sum.inr "at", .int a), (Sum.inr "left", .int t), (Sum.inr "turn", .int u)]
noncomputable def Feed (H : Hp) (d l : Addr) : Prop := ∃ (a t u : Int) (ns : List Int), H d = some (.dK (feedKvs l a t u)) ∧ H l = some (.lst (ns.map V.int)) ∧ 0 ≤ ns.length ∧ ns.length ≤ 64
noncomputable def sp__law_feed (K : PySem.W.Frag) : Sp := fun vs H Q _ => ∃ (a : Addr) (ns : List Int), vs = [.ref a] ∧ SqL K H a (ns.map V.int) ∧ ns.length ≤ 63 ∧ ∀ d l H', H d = none → H l = none → Same H H' → Feed H' d l → Q (.ref d) H'
noncomputable def sp__law_draw (K : PySem.W.Frag) : Sp := fun vs H Q _ => ∃ d l n, vs = [.ref d, .int n] ∧ Feed H d l ∧ 0 < n ∧ n < 1073741824 ∧ ∀ r H', 0 ≤ r → r < n → ExtBut d H H' → Feed H' d l → Q (.int r) H'
theorem fd_script {l : Addr} {a t u : Int} : valV (feedKvs l a t u) (Sum.inr "script" : Key) = some (.ref l) := by rfl
theorem fd_at {l : Addr} {a t u : Int} : valV (feedKvs l a t u) (Sum.inr "at" : Key) = some (.int a) := by rfl
theorem fd_left {l : Addr} {a t u : Int} : valV (feedKvs l a t u) (Sum.inr "left" : Key) = some (.int t) := by rfl
theorem fd_turn {l : Addr} {a t u : Int} : valV (feedKvs l a t u) (Sum.inr "turn" : Key) = some (.int u) := by rfl
local macro_rules | `(tactic| walk_at "kv") => `(tactic| first | exact fd_script | exact fd_at | exact fd_left | exact fd_turn | rfl)
theorem put_turn {l : Addr} {a t u x : Int} : putK (feedKvs l a t u) (Sum.inr "turn" : Key) (.int x) = feedKvs l a t x := by rfl
theorem put_at {l : Addr} {a t u x : Int} : putK (feedKvs l a t u) (Sum.inr "at" : Key) (.int x) = feedKvs l x t u := by rfl
theorem put_left {l : Addr} {a t u x : Int} : putK (feedKvs l a t u) (Sum.inr "left" : Key) (.int x) = feedKvs l a x u := by rfl
theorem Feed.same {H H' : Hp} {d l : Addr} (h : Feed H d l) (e : Same H H') : Feed H' d l := let ⟨a, t, u, ns, h1, h2, h3, h4⟩ := h; ⟨a, t, u, ns, e _ _ h1, e _ _ h2, h3, h4⟩
theorem Feed.put {H H' : Hp} {d l p : Addr} (h : Feed H d l) (e : ExtBut p H H') (hd : d ≠ p) (hl : l ≠ p) : Feed H' d l := let ⟨a, t, u, ns, h1, h2, h3, h4⟩ := h; ⟨a, t, u, ns, e _ _ hd h1, e _ _ hl h2, h3, h4⟩
theorem Feed.nd {H : Hp} {d l p : Addr} (h : Feed H d l) (hp : H p = none) : d ≠ p := let ⟨_, _, _, _, h1, _⟩ := h; ne_of_none h1 hp
theorem Feed.nl {H : Hp} {d l p : Addr} (h : Feed H d l) (hp : H p = none) : l ≠ p := let ⟨_, _, _, _, _, h2, _⟩ := h; ne_of_none h2 hp
theorem Feed.lst {H : Hp} {d l b : Addr} {xs : List V} (h : Feed H d l) (hb : H b = some (.lst xs)) : b ≠ d := let ⟨_, _, _, _, h1, _⟩ := h; ne_of hb h1 (by intro z; cases z)
theorem Feed.tup {H : Hp} {d l b : Addr} {xs : List V} (h : Feed H d l) (hb : H b = some (.tup xs)) : b ≠ d := let ⟨_, _, _, _, h1, _⟩ := h; ne_of hb h1 (by intro z; cases z)
theorem Feed.free {H H' : Hp} {d l p : Addr} (h : Feed H' d l) (e : ExtBut d H H') (hp : H' p = none) : H p = none := by
  cases hq : H p with
  | none => rfl
  | some o =>
    obtain ⟨_, _, _, _, h1, _⟩ := h
    have n : p ≠ d := fun q => by subst q; rw [hp] at h1; cases h1
    rw [e p o n hq] at hp
    cases hp
theorem Feed.fz {H H' : Hp} {d l : Addr} (h : Feed H d l) (e : ExtBut d H H') : Fz H H' := let ⟨_, _, _, _, h1, _⟩ := h; e.fzD h1
theorem Feed.off {H H1 H2 : Hp} {d l q : Addr} (h : Feed H1 d l) (e : ExtBut q H1 H2) (hq : H q = none) (hF : Feed H d l) : Feed H2 d l := h.put e (hF.nd hq) (hF.nl hq)
theorem ok__law_draw {f : Addr} {fd : FuncData} (F : Fun K "_law_draw" "_law_draw" s__law_draw f fd) (T : TopF mg) : FnOk P w K mg base CX0 1 f fd ["_law_feed_here", "_law_many"] (sp__law_draw K) := by
  refine F.ok sc__law_draw (fun vs H Q E h => ?_) (fun cdv A outer s H vs Q E hr h => ?_)
  · obtain ⟨d, l, n, rfl, _⟩ := h
    rfl
  · obtain ⟨d, l, n, rfl, ⟨a, t, u, ns, hd, hl, h0, h64⟩, hn, hn2, k⟩ := h
    have hu := hu_of hr
    have hq := qa_of hr
    have hld : l ≠ d := ne_of hl hd (by intro z; cases z)
    with_reducible refine ⟨_, (pss_cons (ps_dput hu (pv 0) pe_str (pe_op (op_addK (K := K)) (pe_ix (ix_anyK (K := K) hu) (pv 0) pe_str (by with_unfolding_all exact fun _ _ => rfl)) pe_int) (by with_unfolding_all rfl))
      (pss_cons (ps_if (pt_cmpR op_gt (pe_ix (ix_anyK (K := K) hu) (pv 0) pe_str (by with_unfolding_all exact fun _ _ => rfl)) pe_int (nomark _)) (pss_cons (ps_set (i := 2) sc__law_draw.nd (by with_unfolding_all rfl) (by with_unfolding_all exact Or.inl rfl) (pe_op op_mod (pe_ix (ix_anyK (K := K) hu) (pv 0) pe_str (by with_unfolding_all exact fun _ _ => rfl)) (pv 1)))
      (pss_cons (ps_dput hu (pv 0) pe_str (pe_op op_fdivA (pe_ix (ix_anyK (K := K) hu) (pv 0) pe_str (by with_unfolding_all exact fun _ _ => rfl)) (pv 1)) (by with_unfolding_all rfl))
      (pss_one (ps_ret (pv 2))))) pss_nil)
      (pss_cons (ps_set (i := 3) sc__law_draw.nd (by with_unfolding_all rfl) (by with_unfolding_all exact Or.inl rfl) pe_int)
      (pss_cons (ps_if (pt_cmpR (op_neK (K := K) hq) (pe_ix (ix_anyK (K := K) hu) (pv 0) pe_str (by with_unfolding_all exact fun _ _ => rfl)) (pe_lst pa_nil) (nomark _)) (pss_one (ps_set (i := 3) sc__law_draw.nd (by with_unfolding_all rfl) (by with_unfolding_all exact Or.inl rfl) (pe_ix (ix_anyK (K := K) hu) (pe_ix (ix_anyK (K := K) hu) (pv 0) pe_str (by with_unfolding_all exact fun _ _ => rfl)) (pe_op op_mod (pe_ix (ix_anyK (K := K) hu) (pv 0) pe_str (by with_unfolding_all exact fun _ _ => rfl)) (pe_callB (call_lenK (K := K)) (by with_unfolding_all rfl) T.b_len PyProof.Rows.Boot.«len» (pa_cons (pe_ix (ix_anyK (K := K) hu) (pv 0) pe_str (by with_unfolding_all exact fun _ _ => rfl)) pa_nil))) (by with_unfolding_all exact fun _ _ => rfl)))) pss_nil)
      (pss_cons (ps_dput hu (pv 0) pe_str (pe_op (op_addK (K := K)) (pe_ix (ix_anyK (K := K) hu) (pv 0) pe_str (by with_unfolding_all exact fun _ _ => rfl)) pe_int) (by with_unfolding_all rfl))
      (pss_cons (ps_if (PW.pt (pw_and (pt_cmpR op_ge (pv 3) (pe_op op_pow pe_int pe_int) (nomark _)) (pw_and1 (pt_cmpR op_le (pe_ix (ix_anyK (K := K) hu) (pv 0) pe_str (by with_unfolding_all exact fun _ _ => rfl)) (pe_callB (call_lenK (K := K)) (by with_unfolding_all rfl) T.b_len PyProof.Rows.Boot.«len» (pa_cons (pe_ix (ix_anyK (K := K) hu) (pv 0) pe_str (by with_unfolding_all exact fun _ _ => rfl)) pa_nil)) (nomark _))))) (pss_cons (ps_dput hu (pv 0) pe_str (pe_op op_fdivA (pv 3) (pv 1)) (by with_unfolding_all rfl))
      (pss_one (ps_ret (pe_op op_mod (pv 3) (pv 1))))) pss_nil)
      (pss_cons (ps_set (i := 4) sc__law_draw.nd (by with_unfolding_all rfl) (by with_unfolding_all exact Or.inl rfl) (pe_op op_mod (pe_op op_mulB (pe_op (op_addK (K := K)) (pe_op op_mod (pv 3) pe_int) (pe_op op_mulB pe_int (pe_ix (ix_anyK (K := K) hu) (pv 0) pe_str (by with_unfolding_all exact fun _ _ => rfl)))) pe_int) pe_int))
      (pss_cons (ps_set (i := 4) sc__law_draw.nd (by with_unfolding_all rfl) (by with_unfolding_all exact Or.inl rfl) (pe_op op_mod (pe_op op_mulB (pe_op (op_addK (K := K)) (pe_op op_fdivA (pv 4) pe_int) (pe_op op_mulB pe_int (pe_ix (ix_anyK (K := K) hu) (pv 0) pe_str (by with_unfolding_all exact fun _ _ => rfl)))) pe_int) pe_int))
      (pss_one (ps_ret (pe_op op_mod (pe_op op_fdivA (pv 4) pe_int) (pv 1)))))))))))), ?_⟩
    walk_at "rd"
    refine i_dput hd (by show 4 < 1000; decide) fun H1 e1 hd1 => ?_
    rw [put_turn] at hd1
    have hl1 : H1 l = some (.lst (ns.map V.int)) := e1 _ _ hld hl
    walk_at "rd"
    refine iteD (fun ht => ?_) (fun ht => ?_)
    · walk_at "rd"
      refine i_dput hd1 (by show 4 < 1000; decide) fun H2 e2 hd2 => ?_
      rw [put_left] at hd2
      have hl2 : H2 l = some (.lst (ns.map V.int)) := e2 _ _ hld hl1
      walk_at "rd"
      exact k _ H2 (Int.emod_nonneg _ (by omega)) (Int.emod_lt_of_pos _ hn) (e1.trans e2) ⟨_, _, _, ns, hd2, hl2, h0, h64⟩
    · walk_at "rq"
      with_reducible refine i_cut (fun σ' H' => ∃ c : Int, σ' = [some (.ref d), some (.int n), none, some (.int c), none] ∧ Same H1 H') (fun N hN => ?_) (fun σ1 H2 hM => ?_)
      · walk_at "rq"
        refine i_newL (by decide) fun y H2 hy2 e2 h2 => ?_
        refine i_neD (is_listI (e2.seq (SqL.of hl1))) (is_listI (ns := []) (SqL.of h2)) (PySem.W.ke_shaped_ints ns) (PySem.W.ke_shaped_ints []) ?_
        walk_at "rq"
        refine iteNB (fun hc => ?_) (fun hc => ?_)
        · have hpos : 0 < ns.length := by
            cases ns with
            | nil => simp [PyData.eqv, PyData.eqvAll] at hc
            | cons => simp
          have hl2 := e2 _ _ hl1
          have hd2 := e2 _ _ hd1
          walk_at "rq"
          have hlen : (0 : Int) < ((ns.map V.int).length : Nat) := by rw [List.length_map]; omega
          refine i_rI hlen ?_
          have hm0 : 0 ≤ a % (((ns.map V.int).length : Nat) : Int) := Int.emod_nonneg _ (by omega)
          have hm1 := Int.emod_lt_of_pos a hlen
          obtain ⟨c, hc⟩ : ∃ c, (ns.map V.int)[(a % (((ns.map V.int).length : Nat) : Int)).toNat]? = some (V.int c) := by
            refine ⟨ns[(a % (((ns.map V.int).length : Nat) : Int)).toNat]'(by rw [List.length_map] at *; omega), ?_⟩
            rw [List.getElem?_map, List.getElem?_eq_getElem]
            rfl
          refine i_ixL hl2 (by
            have := atI_nat hc
            rwa [Int.toNat_of_nonneg hm0] at this) ?_
          walk_at "rq"
          exact hN _ _ ⟨c, rfl, e2⟩
        · walk_at "rq"
          exact hN _ _ ⟨0, rfl, e2⟩
      · obtain ⟨c, rfl, e2⟩ := hM
        have hd2 := e2 _ _ hd1
        have hl2 := e2 _ _ hl1
        have e12 : ExtBut d H H2 := e1.same e2
        walk_at "rd"
        refine i_dput hd2 (by show 4 < 1000; decide) fun H3 e3 hd3 => ?_
        rw [put_at] at hd3
        have hl3 : H3 l = some (.lst (ns.map V.int)) := e3 _ _ hld hl2
        have fin : ∀ r : Int, 0 ≤ r → r < n → Q (.int r) H3 := fun r h1 h2 => k r H3 h1 h2 (e12.trans e3) ⟨_, _, _, ns, hd3, hl3, h0, h64⟩
        have take : ∀ r x : Int, 0 ≤ r → r < n → ∀ H4, ExtBut d H3 H4 → H4 d = some (.dK (feedKvs l (a + 1) x (u + 1))) → Q (.int r) H4 := fun r x h1 h2 H4 e4 h4 => k r H4 h1 h2 ((e12.trans e3).trans e4) ⟨_, _, _, ns, h4, e4 _ _ hld hl3, h0, h64⟩
        walk_at "rd"
        refine iteD (fun hc => ?_) (fun hc => ?_)
        · walk_at "rd"
          refine iteD (fun hc2 => ?_) (fun hc2 => ?_)
          · walk_at "rd"
            refine i_dput hd3 (by show 4 < 1000; decide) fun H4 e4 hd4 => ?_
            rw [put_left] at hd4
            walk_at "rd"
            exact take _ _ (Int.emod_nonneg _ (by omega)) (Int.emod_lt_of_pos _ hn) H4 e4 hd4
          · walk_at "rd"
            exact fin _ (Int.emod_nonneg _ (by omega)) (Int.emod_lt_of_pos _ hn)
        · walk_at "rd"
          exact fin _ (Int.emod_nonneg _ (by omega)) (Int.emod_lt_of_pos _ hn)
theorem ok__law_feed {f : Addr} {fd : FuncData} (F : Fun K "_law_feed" "_law_feed" s__law_feed f fd) (T : TopF mg) : FnOk P w K mg base CX0 1 f fd ["_law_script"] (sp__law_feed K) := by
  refine F.ok sc__law_feed (fun vs H Q E h => ?_) (fun cdv A outer s H vs Q E hr h => ?_)
  · obtain ⟨a, ns, rfl, _⟩ := h
    rfl
  · obtain ⟨a, ns, rfl, hS, h63, k⟩ := h
    have hu := hu_of hr
    have hq := qa_of hr
    with_reducible refine ⟨_, (pss_one (ps_ret (pe_disp (pps_cons pe_str (pe_callTy (call_listK (K := K)) (by with_unfolding_all rfl) T.b_list PyProof.Rows.Boot.«list» (pa_cons (pe_slice (sl_K (K := K)) (pv 0) po_none (po_some pe_int)) pa_nil)) (pps_cons pe_str pe_int (pps_cons pe_str pe_int (pps_cons pe_str pe_int pps_nil)))) (by with_unfolding_all rfl) (by with_unfolding_all rfl) (by decide) (by decide)))), ?_⟩
    walk_at "rd"
    refine i_disp fun p H1 hp e1 hp1 => ?_
    walk_at "rd"
    have hS1 := e1.seq hS
    refine i_slL hS1 fun q H2 hq2 e2 hq2' => ?_
    rw [cut_upto (by decide), ← List.map_take] at hq2'
    walk_at "rd"
    refine i_listL (SqL.of hq2') fun v H3 hv3 e3 hv3' => ?_
    walk_at "rd"
    refine i_pairs [(Sum.inr "script", .ref v), (Sum.inr "at", .int 0), (Sum.inr "left", .int 0), (Sum.inr "turn", .int 0)] (by walk_at "lk") (by rfl) (by show 4 ≤ 15; decide) fun H4 e4 h4 => ?_
    have en : H4 p = some (.dK (feedKvs v 0 0 0)) := h4
    refine k p v H4 hp (e1.free (e2.free hv3)) (fun b o hb => e4 b o (ne_of_none hb hp) (e3 _ _ (e2 _ _ (e1 _ _ hb)))) ⟨0, 0, 0, _, en, e4 _ _ (Ne.symm (ne_of_none (e2 _ _ hp1) hv3)) hv3', Nat.zero_le _, ?_⟩
    rw [List.length_take]
    omega
noncomputable def sp__law_shuffled (K : PySem.W.Frag) : Sp := fun vs H Q _ => ∃ d l a xs, vs = [.ref d, .ref a] ∧ Feed H d l ∧ (SqL K H a xs ∨ SqT K H a xs) ∧ xs.length ≤ 1000 ∧ ∀ p ys H', H p = none → ExtBut d H H' → Feed H' d l → H' p = some (.lst ys) → ys.Perm xs → Q (.ref p) H'
theorem ok__law_shuffled {f : Addr} {fd : FuncData} (F : Fun K "_law_shuffled" "_law_shuffled" s__law_shuffled f fd) (T : TopF mg) (c__law_draw : Fnd P w K mg base 1 "_law_draw" ["_law_feed_here", "_law_many"] (sp__law_draw K)) : FnOk P w K mg base CX0 2 f fd ["_law_feed_here", "_law_some"] (sp__law_shuffled K) := by
  refine F.ok sc__law_shuffled (fun vs H Q E h => ?_) (fun cdv A outer s H vs Q E hr h => ?_)
  · obtain ⟨d, l, a, xs, rfl, _⟩ := h
    rfl
  · obtain ⟨d, l, a, xs, rfl, hF, hS, hx, k⟩ := h
    have hu := hu_of hr
    have hq := qa_of hr
    with_reducible refine ⟨_, (pss_cons (ps_set (i := 2) sc__law_shuffled.nd (by with_unfolding_all rfl) (by with_unfolding_all exact Or.inl rfl) (pe_callTy (call_listK (K := K)) (by with_unfolding_all rfl) T.b_list PyProof.Rows.Boot.«list» (pa_cons (pv 1) pa_nil)))
      (pss_cons (ps_set (i := 3) sc__law_shuffled.nd (by with_unfolding_all rfl) (by with_unfolding_all exact Or.inl rfl) (pe_lst pa_nil))
      (pss_cons (ps_for PassesOwn.never (by with_unfolding_all rfl) (pi_range1 (by with_unfolding_all rfl) T.b_range (pa_cons (pe_callB (call_lenK (K := K)) (by with_unfolding_all rfl) T.b_len PyProof.Rows.Boot.«len» (pa_cons (pv 2) pa_nil)) pa_nil)) (pg_name (i := 4) sc__law_shuffled.nd (by with_unfolding_all rfl) (by with_unfolding_all exact Or.inl rfl))
      (pss_one (ps_expr (pe_bmK (K := K) PySem.F.plainAttrs_list PySem.F.slot_list_append PySem.F.type_list_append (mm mt_append) (pv 3) (pa_cons (pe_bmK (K := K) PySem.F.plainAttrs_list PySem.F.slot_list_pop PySem.F.type_list_pop (mm mt_popAt) (pv 2) (pa_cons (pe_fn c__law_draw (hr.mono (by decide)) (by with_unfolding_all rfl) (pa_cons (pv 0) (pa_cons (pe_callB (call_lenK (K := K)) (by with_unfolding_all rfl) T.b_len PyProof.Rows.Boot.«len» (pa_cons (pv 2) pa_nil)) pa_nil))) pa_nil)) pa_nil)))))
      (pss_one (ps_ret (pv 3)))))), ?_⟩
    walk_at "rd"
    refine i_listA hS fun q H1 hq1 e1 h1 => ?_
    walk_at "rd"
    refine i_newL (by decide) fun p H2 hp2 e2 h2 => ?_
    walk_at "rd"
    refine i_rngv (by omega) ?_
    have hp0 : H p = none := e1.free hp2
    have hpq : p ≠ q := fun z => by subst z; rw [h1] at hp2; cases hp2
    refine for_by walk_range (fun i σ H3 => ∃ us vs x4, σ = [some (.ref d), some (.ref a), some (.ref q), some (.ref p), x4] ∧ ExtBut d H H3 ∧ Feed H3 d l ∧ H3 q = some (.lst us) ∧ H3 p = some (.lst vs) ∧ (vs ++ us).Perm xs ∧ us.length + i = xs.length ∧ vs.length = i)
      ⟨xs, [], none, rfl, by walk_at "fr", by walk_at "fd", by walk_at "lk", h2, by simp, rfl, rfl⟩ (fun _ _ _ _ => trivial) (fun i x σ H3 hx3 hi hP => ?_) (fun σ H3 hP => ?_)
    · obtain ⟨us, vs, x4, rfl, e3, hF3, h3q, h3p, hperm, hlen, hvl⟩ := hP
      obtain ⟨rfl, hi2⟩ := rng_get hx3
      have hi3 : i < xs.length := by simpa using hi2
      walk_at "rd"
      refine ⟨d, l, _, rfl, hF3, by omega, by omega, fun r H4 hr0 hr1 e4 hF4 => ?_⟩
      have h4q : H4 q = some (.lst us) := e4 _ _ (hF3.lst h3q) h3q
      have h4p : H4 p = some (.lst vs) := e4 _ _ (hF3.lst h3p) h3p
      have hr2 : r.toNat < us.length := by omega
      walk_at "rd"
      refine i_popAtR h4q hr0 (List.getElem?_eq_getElem hr2) (fun H5 e5 h5q => ?_) (by omega)
      have h5p : H5 p = some (.lst vs) := e5 _ _ hpq h4p
      walk_at "rd"
      refine i_appR h5p (by omega) fun H6 e6 h6p => ?_
      walk_at "rd"
      refine ⟨us.eraseIdx r.toNat, vs ++ [us[r.toNat]], _, rfl, by walk_at "fr", (hF4.put e5 (hF.nd hq1) (hF.nl hq1)).put e6 (hF.nd hp0) (hF.nl hp0), e6 _ _ (Ne.symm hpq) h5q, h6p, ?_, ?_, by simp [hvl]⟩
      · exact (perm_pop (List.getElem?_eq_getElem hr2) vs).trans hperm
      · rw [List.length_eraseIdx, if_pos hr2]
        omega
    · obtain ⟨us, vs, x4, rfl, e3, hF3, h3q, h3p, hperm, hlen, hvl⟩ := hP
      walk_at "rd"
      have hu0 : us = [] := by
        rw [List.length_map, List.length_range] at hlen
        exact List.length_eq_zero_iff.mp (by omega)
      subst hu0
      rw [List.append_nil] at hperm
      exact k p vs H3 hp0 e3 hF3 h3p hperm
noncomputable def sp__law_names (K : PySem.W.Frag) : Sp := fun vs H Q _ => ∃ d l, vs = [.ref d] ∧ Feed H d l ∧ ∀ p ns H', H p = none → ExtBut d H H' → Feed H' d l → H' p = some (.lst (ns.map V.str)) → Names ns → ns.length = 10 → Q (.ref p) H'
noncomputable def MN (H : Hp) (d l : Addr) (way st sz at' : Int) : L2.St → Hp → Prop := fun σ' H' => ∃ p ns x7 x8, σ' = [some (V.ref d), some (.str LL), some (.int way), some (.int st), some (.int (1 + sz)), some (.int at'), some (.ref p), x7, x8] ∧ ExtBut d H H' ∧ Feed H' d l ∧ H' p = some (.lst (ns.map V.str)) ∧ Names ns ∧ ns.length = 10
theorem ok__law_names {f : Addr} {fd : FuncData} (F : Fun K "_law_names" "_law_names" s__law_names f fd) (T : TopF mg) (c__law_draw : Fnd P w K mg base 1 "_law_draw" ["_law_feed_here", "_law_many"] (sp__law_draw K)) (c__law_shuffled : Fnd P w K mg base 2 "_law_shuffled" ["_law_feed_here", "_law_some"] (sp__law_shuffled K)) : FnOk P w K mg base CX0 3 f fd ["_law_feed_here"] (sp__law_names K) := by
  refine F.ok sc__law_names (fun vs H Q E h => ?_) (fun cdv A outer s H vs Q E hr h => ?_)
  · obtain ⟨d, l, rfl, _⟩ := h
    rfl
  · obtain ⟨d, l, rfl, hF, k⟩ := h
    have hu := hu_of hr
    have hq := qa_of hr
    with_reducible refine ⟨_, (pss_cons (ps_set (i := 1) sc__law_names.nd (by with_unfolding_all rfl) (by with_unfolding_all exact Or.inr rfl) (pe_op op_mulB pe_str pe_int))
      (pss_cons (ps_set (i := 2) sc__law_names.nd (by with_unfolding_all rfl) (by with_unfolding_all exact Or.inl rfl) (pe_fn c__law_draw (hr.mono (by decide)) (by with_unfolding_all rfl) (pa_cons (pv 0) (pa_cons pe_int pa_nil))))
      (pss_cons (ps_set (i := 3) sc__law_names.nd (by with_unfolding_all rfl) (by with_unfolding_all exact Or.inr rfl) (pe_fn c__law_draw (hr.mono (by decide)) (by with_unfolding_all rfl) (pa_cons (pv 0) (pa_cons pe_int pa_nil))))
      (pss_cons (ps_set (i := 4) sc__law_names.nd (by with_unfolding_all rfl) (by with_unfolding_all exact Or.inl rfl) (pe_op (op_addK (K := K)) pe_int (pe_fn c__law_draw (hr.mono (by decide)) (by with_unfolding_all rfl) (pa_cons (pv 0) (pa_cons pe_int pa_nil)))))
      (pss_cons (ps_set (i := 5) sc__law_names.nd (by with_unfolding_all rfl) (by with_unfolding_all exact Or.inl rfl) (pe_fn c__law_draw (hr.mono (by decide)) (by with_unfolding_all rfl) (pa_cons (pv 0) (pa_cons (pv 4) pa_nil))))
      (pss_cons (ps_set (i := 6) sc__law_names.nd (by with_unfolding_all rfl) (by with_unfolding_all exact Or.inl rfl) (pe_lst (pa_cons pe_str (pa_cons pe_str (pa_cons pe_str (pa_cons pe_str (pa_cons pe_str (pa_cons pe_str (pa_cons pe_str (pa_cons pe_str (pa_cons pe_str (pa_cons pe_str pa_nil))))))))))))
      (pss_cons (ps_if (pt_cmpR (op_eqK (K := K) hq) (pv 2) pe_int (nomark _)) (pss_cons (ps_set (i := 7) sc__law_names.nd (by with_unfolding_all rfl) (by with_unfolding_all exact Or.inr rfl) (pe_slice (sl_K (K := K)) (pv 1) (po_some (pv 3)) (po_some (pe_op (op_addK (K := K)) (pv 3) (pv 5)))))
      (pss_cons (ps_set (i := 8) sc__law_names.nd (by with_unfolding_all rfl) (by with_unfolding_all exact Or.inr rfl) (pe_slice (sl_K (K := K)) (pv 1) (po_some (pv 3)) (po_some (pe_op op_sub (pe_op op_sub (pe_op (op_addK (K := K)) (pv 3) (pv 4)) (pv 5)) pe_int))))
      (pss_one (ps_setcomp (i := 6) ["_law_k"] ["_law_head", "_law_letters", "_law_tail"] [7, 1, 8] (by with_unfolding_all rfl) (by with_unfolding_all rfl) (by with_unfolding_all rfl) sc__law_names.nd (by with_unfolding_all rfl) (by with_unfolding_all rfl) (pi_range1 (by with_unfolding_all rfl) T.b_range (pa_cons pe_int pa_nil)) (fun _ _ _ _ => (pg_name (i := 0) (by with_unfolding_all (show (["_law_k", "_law_head", "_law_letters", "_law_tail"] : List Str).Nodup; decide +kernel)) (by with_unfolding_all rfl) (by with_unfolding_all exact Or.inl rfl))) (gk_name (by decide)) (fun _ _ _ _ => pif_nil) (fun _ _ _ _ => (pe_op (op_addK (K := K)) (pe_op (op_addK (K := K)) (pv 1) (pe_ix (ix_anyK (K := K) hu) (pv 2) (pe_op op_mod (pe_op op_mulB pe_int (pv 0)) pe_int) (by with_unfolding_all exact fun _ _ => rfl))) (pv 3))))))) pss_nil)
      (pss_cons (ps_if (pt_cmpR (op_eqK (K := K) hq) (pv 2) pe_int (nomark _)) (pss_one (ps_set (i := 6) sc__law_names.nd (by with_unfolding_all rfl) (by with_unfolding_all exact Or.inl rfl) (pe_op (op_addK (K := K)) (pe_comp ["_law_k"] ["_law_letters", "_law_start"] [1, 3] (by with_unfolding_all rfl) (by with_unfolding_all rfl) (by with_unfolding_all rfl) (pi_range1 (by with_unfolding_all rfl) T.b_range (pa_cons pe_int pa_nil)) (fun _ _ _ _ => (pg_name (i := 0) (by with_unfolding_all (show (["_law_k", "_law_letters", "_law_start"] : List Str).Nodup; decide +kernel)) (by with_unfolding_all rfl) (by with_unfolding_all exact Or.inl rfl))) (gk_name (by decide)) (fun _ _ _ _ => pif_nil) (fun _ _ _ _ => (pe_slice (sl_K (K := K)) (pv 1) (po_some (pv 2)) (po_some (pe_op (op_addK (K := K)) (pe_op (op_addK (K := K)) (pv 2) pe_int) (pv 0)))))) (pe_lst (pa_cons (pe_ix (ix_anyK (K := K) hu) (pv 1) (pe_op (op_addK (K := K)) (pv 3) pe_int) (by with_unfolding_all exact fun _ _ => rfl)) (pa_cons (pe_ix (ix_anyK (K := K) hu) (pv 1) (pe_op (op_addK (K := K)) (pv 3) pe_int) (by with_unfolding_all exact fun _ _ => rfl)) pa_nil)))))) pss_nil)
      (pss_cons (ps_if (pt_cmpR (op_eqK (K := K) hq) (pv 2) pe_int (nomark _)) (pss_one (ps_setcomp (i := 6) ["_law_k"] ["_law_letters", "_law_start"] [1, 3] (by with_unfolding_all rfl) (by with_unfolding_all rfl) (by with_unfolding_all rfl) sc__law_names.nd (by with_unfolding_all rfl) (by with_unfolding_all rfl) (pi_range1 (by with_unfolding_all rfl) T.b_range (pa_cons pe_int pa_nil)) (fun _ _ _ _ => (pg_name (i := 0) (by with_unfolding_all (show (["_law_k", "_law_letters", "_law_start"] : List Str).Nodup; decide +kernel)) (by with_unfolding_all rfl) (by with_unfolding_all exact Or.inl rfl))) (gk_name (by decide)) (fun _ _ _ _ => pif_nil) (fun _ _ _ _ => (pe_slice (sl_K (K := K)) (pv 1) (po_some (pe_op (op_addK (K := K)) (pv 2) (pe_op op_mulB pe_int (pv 0)))) (po_some (pe_op (op_addK (K := K)) (pe_op (op_addK (K := K)) (pe_op (op_addK (K := K)) (pv 2) (pe_op op_mulB pe_int (pv 0))) pe_int) (pe_op op_mod (pe_op op_mulB pe_int (pv 0)) pe_int))))))) pss_nil)
      (pss_one (ps_ret (pe_fn c__law_shuffled (hr.mono (by decide)) (by with_unfolding_all rfl) (pa_cons (pv 0) (pa_cons (pv 6) pa_nil)))))))))))))), ?_⟩
    walk_at "rd"
    refine i_mulBS (by decide) ?_
    rw [LL_rep]
    walk_at "rd"
    refine ⟨d, l, _, rfl, hF, by omega, by omega, fun way H1 hw0 hw1 e1 hF1 => ?_⟩
    walk_at "rd"
    refine ⟨d, l, _, rfl, hF1, by omega, by omega, fun st H2 hs0 hs1 e2 hF2 => ?_⟩
    walk_at "rd"
    refine ⟨d, l, _, rfl, hF2, by omega, by omega, fun sz H3 hz0 hz1 e3 hF3 => ?_⟩
    walk_at "rd"
    refine ⟨d, l, _, rfl, hF3, by omega, by omega, fun at' H4 ha0 ha1 e4 hF4 => ?_⟩
    walk_at "rd"
    refine i_newL (by decide) fun p5 H5 hp5 e5 h5 => ?_
    walk_at "rq"
    have fr4 : ExtBut d H H4 := by walk_at "fr"
    have hF5 : Feed H5 d l := by walk_at "fd"
    with_reducible refine i_cut (MN H d l way st sz at') (fun N hN => ?_) (fun σ1 H6 hM => ?_)
    · walk_at "rq"
      refine iteD (fun hw => ?_) (fun hw => ?_)
      · walk_at "rq"
        refine i_rngv (by omega) ?_
        have c1 := LL_cut (i := st) (j := st + at') hs0 (by omega) (by omega)
        have c2 := LL_cut (i := st) (j := st + (1 + sz) - at' - 1) (by omega) (by omega) (by omega)
        rw [c1, c2]
        refine comp_map walk_range (fI fun k => .str (txt (cutN st.toNat (st + at').toNat) ++ txt (sgnN (7 * k % 26).toNat) ++ txt (cutN st.toNat (st + (1 + sz) - at' - 1).toNat))) (by simp) (fun _ _ => trivial) (fun i x H8 R hx e8 hR => ?_) (fun p8 H8 hp8 e8 h8 => ?_)
        · obtain ⟨rfl, hi⟩ := rng_get hx
          have hm0 := Int.emod_nonneg (7 * (0 + (i : Int))) (show (26 : Int) ≠ 0 by decide)
          have hm1 := Int.emod_lt_of_pos (7 * (0 + (i : Int))) (show (0 : Int) < 26 by decide)
          obtain ⟨c, hc, ec⟩ := LL_at (i := 7 * (0 + (i : Int)) % 26) (by omega) (by omega)
          walk_at "rq"
          refine i_ixS LL_line hc ?_
          rw [ec]
          have l1 : (txt (cutN st.toNat (st + at').toNat)).length ≤ 52 := by show (cutN _ _).toArray.size ≤ _; unfold cutN; simp [LLn_len]; omega
          have l2 : (txt (cutN st.toNat (st + (1 + sz) - at' - 1).toNat)).length ≤ 52 := by show (cutN _ _).toArray.size ≤ _; unfold cutN; simp [LLn_len]; omega
          have l3 : (txt (sgnN (7 * (0 + (i : Int)) % 26).toNat)).length ≤ 52 := by show (sgnN _).toArray.size ≤ _; unfold sgnN; simp [LLn_len]; omega
          refine i_addS (line_of (by omega)) ?_
          have l4 : (txt (cutN st.toNat (st + at').toNat) ++ txt (sgnN (7 * (0 + (i : Int)) % 26).toNat)).length ≤ 104 := by rw [Str.length_append]; omega
          walk_at "rq"
          exact hR
        · rw [map_rng (G := fun k => txt (cutN st.toNat (st.toNat + at'.toNat) ++ sgnN (7 * k % 26) ++ cutN st.toNat (st.toNat + (1 + sz).toNat - at'.toNat - 1))) (fun k hk => by
            have q1 : (st + at').toNat = st.toNat + at'.toNat := by omega
            have q2 : (7 * (0 + (k : Int)) % 26).toNat = 7 * k % 26 := by omega
            have q4 : (st + (1 + sz) - at' - 1).toNat = st.toNat + (1 + sz).toNat - at'.toNat - 1 := by omega
            rw [q1, q2, q4, txt_app, txt_app])] at h8
          walk_at "rq"
          refine hN _ _ ⟨p8, (nm40 st.toNat (1 + sz).toNat at'.toNat).map txt, _, _, rfl, by walk_at "fr", by walk_at "fd", ?_, ok_nm40 (by omega) (by omega) (by omega), by simp [nm40]⟩
          rw [h8]
          simp [nm40, Function.comp_def]
      · walk_at "rq"
        refine hN _ _ ⟨p5, nm43, none, none, rfl, by walk_at "fr", hF5, h5, ok_nm43, rfl⟩
    · obtain ⟨p, ns, x7, x8, rfl, e6, hF6, h6, hN6, hl6⟩ := hM
      with_reducible refine i_cut (MN H d l way st sz at') (fun N hN => ?_) (fun σ1 H7 hM => ?_)
      · walk_at "rq"
        refine iteD (fun hw => ?_) (fun hw => ?_)
        · walk_at "rq"
          refine i_rngv (by omega) ?_
          refine comp_map walk_range (fI fun k => .str (Txt.slice LL (some st) (some (st + 1 + k)))) (by simp) (fun _ _ => trivial) (fun i x H6 R hx e6 hR => ?_) (fun p6 H7 hp6 e7 h7 => ?_)
          · obtain ⟨rfl, hi⟩ := rng_get hx
            walk_at "rq"
            exact hR
          · rw [map_rng (G := fun k => txt (cutN st.toNat (st.toNat + 1 + k))) (fun k hk => by
              have e := LL_cut (i := st) (j := st + 1 + (0 + (k : Int))) hs0 (by omega) (by have : ((8 : Int)).toNat = 8 := rfl; omega)
              have e2 : (st + 1 + (0 + (k : Int))).toNat = st.toNat + 1 + k := by omega
              rw [e2] at e
              rw [e])] at h7
            obtain ⟨c9, hc9, e9⟩ := LL_at (i := st + 9) (by omega) (by omega)
            obtain ⟨c11, hc11, e11⟩ := LL_at (i := st + 11) (by omega) (by omega)
            walk_at "rq"
            refine i_ixS LL_line hc9 ?_
            walk_at "rq"
            refine i_ixS LL_line hc11 ?_
            walk_at "rq"
            refine i_newL (line_of (by simp)) fun p8 H8 hp8 e8 h8 => ?_
            refine i_addL (by walk_at "lk") h8 (by simp [sizeLine_eq]) fun p9 H9 hp9 e9' h9 => ?_
            walk_at "rq"
            refine hN _ _ ⟨p9, (nm41 st.toNat).map txt, _, _, rfl, by walk_at "fr", by walk_at "fd", ?_, ok_nm41 (by omega), by simp [nm41]⟩
            rw [h9, e9, e11]
            have q9 : (st + 9).toNat = st.toNat + 9 := by omega
            have q10 : (st + 11).toNat = st.toNat + 11 := by omega
            rw [q9, q10]
            simp [nm41, Function.comp_def]
        · walk_at "rq"
          exact hN _ _ ⟨p, ns, x7, x8, rfl, e6, hF6, h6, hN6, hl6⟩
      · obtain ⟨p', ns', x7', x8', rfl, e7, hF7, h7, hN7, hl7⟩ := hM
        with_reducible refine i_cut (MN H d l way st sz at') (fun N hN => ?_) (fun σ1 H8 hM => ?_)
        · walk_at "rq"
          refine iteD (fun hw => ?_) (fun hw => ?_)
          · walk_at "rq"
            refine i_rngv (by omega) ?_
            refine comp_map walk_range (fI fun k => .str (Txt.slice LL (some (st + 2 * k)) (some (st + 2 * k + 1 + 5 * k % 8)))) (by simp) (fun _ _ => trivial) (fun i x H8 R hx e8 hR => ?_) (fun p8 H8 hp8 e8 h8 => ?_)
            · obtain ⟨rfl, hi⟩ := rng_get hx
              walk_at "rq"
              exact hR
            · rw [map_rng (G := fun k => txt (cutN (st.toNat + 2 * k) (st.toNat + 2 * k + 1 + 5 * k % 8))) (fun k hk => by
                have h10 : ((10 : Int)).toNat = 10 := rfl
                have e := LL_cut (i := st + 2 * (0 + (k : Int))) (j := st + 2 * (0 + (k : Int)) + 1 + 5 * (0 + (k : Int)) % 8) (by omega) (by omega) (by omega)
                have q1 : (st + 2 * (0 + (k : Int))).toNat = st.toNat + 2 * k := by omega
                have q2 : (st + 2 * (0 + (k : Int)) + 1 + 5 * (0 + (k : Int)) % 8).toNat = st.toNat + 2 * k + 1 + 5 * k % 8 := by omega
                rw [q1, q2] at e
                rw [e])] at h8
              walk_at "rq"
              refine hN _ _ ⟨p8, (nm42 st.toNat).map txt, _, _, rfl, by walk_at "fr", by walk_at "fd", ?_, ok_nm42 (by omega), by simp [nm42]⟩
              rw [h8]
              simp [nm42, Function.comp_def]
          · walk_at "rq"
            exact hN _ _ ⟨p', ns', x7', x8', rfl, e7, hF7, h7, hN7, hl7⟩
        · obtain ⟨p2, ms, y7, y8, rfl, e8, hF8, h8, hN8, hl8⟩ := hM
          walk_at "rd"
          refine ⟨d, l, p2, _, rfl, hF8, .inl (SqL.of h8), by rw [List.length_map]; omega, fun p9 ys9 H9 hp9 e9 hF9 h9 hperm => ?_⟩
          obtain ⟨ls, rfl, hpm⟩ := perm_strs9 hperm
          exact k p9 ls H9 (hF8.free e8 hp9) (e8.trans e9) hF9 h9 (hN8.perm hpm) (by rw [hpm.length_eq, hl8])
noncomputable def sp__law_is_laid (K : PySem.W.Frag) : Sp := fun vs H Q _ => ∃ d l way j k m, vs = [.ref d, .int way, .int j, .int k, .int m] ∧ Feed H d l ∧ 0 ≤ way ∧ way < 7 ∧ 0 < k ∧ k ≤ 100 ∧ ∀ b H', ExtBut d H H' → Feed H' d l → Q (.bl b) H'
noncomputable def sp__law_half (K : PySem.W.Frag) : Sp := fun vs H Q _ => ∃ d l n, vs = [.ref d, .int n] ∧ Feed H d l ∧ 0 ≤ n ∧ n ≤ 10 ∧ ∀ v ns ps H', ExtBut d H H' → Feed H' d l → Is K H' (hfD ns ps) v → Half ns ps → ns.length = n.toNat → Q v H'
theorem isL_ins4 {K : PySem.W.Frag} {H : Hp} {ps : List (Str × Str)} {xs : List V} {p : Str × Str} {v : V} (n : Nat) (h : IsL K H (ps.map prD) xs) (hv : Is K H (prD p) v) : IsL K H ((ps.take n ++ p :: ps.drop n).map prD) (insL xs n v) := by
  rw [List.map_append, List.map_cons, List.map_take, List.map_drop]
  exact (IsL.take n h).append (.cons hv (IsL.drop n h))
theorem len_prs4 {K : PySem.W.Frag} {H : Hp} {ps : List (Str × Str)} {xs : List V} (h : IsL K H (ps.map prD) xs) : xs.length = ps.length := by rw [← IsL.length h, List.length_map]
theorem up_ins {ls : List Str} {ps : List (Str × Str)} {p : Str × Str} (n : Nat) (h : Up ls ps) (hp : Up ls [p]) : Up ls (ps.take n ++ p :: ps.drop n) := by
  intro z hz
  rcases List.mem_append.mp hz with hz | hz
  · exact h z (List.mem_of_mem_take hz)
  · rcases List.mem_cons.mp hz with rfl | hz
    · exact hp _ (by simp)
    · exact h z (List.mem_of_mem_drop hz)
theorem ok__law_is_laid {f : Addr} {fd : FuncData} (F : Fun K "_law_is_laid" "_law_is_laid" s__law_is_laid f fd) (T : TopF mg) (c__law_draw : Fnd P w K mg base 1 "_law_draw" ["_law_feed_here", "_law_many"] (sp__law_draw K)) : FnOk P w K mg base CX0 2 f fd ["_law_feed_here", "_law_way", "_law_j", "_law_k", "_law_many"] (sp__law_is_laid K) := by
  refine F.ok sc__law_is_laid (fun vs H Q E h => ?_) (fun cdv A outer s H vs Q E hr h => ?_)
  · obtain ⟨d, l, way, j, kk, m, rfl, _⟩ := h
    rfl
  · obtain ⟨d, l, way, j, kk, m, rfl, hF, hw0, hw1, hk0, hk1, k⟩ := h
    have hu := hu_of hr
    have hq := qa_of hr
    with_reducible refine ⟨_, (pss_cons (ps_if (PW.pt (pw_or (pt_cmpR (op_eqK (K := K) hq) (pv 1) pe_int (nomark _)) (pw_or1 (pt_cmpR (op_eqK (K := K) hq) (pv 1) pe_int (nomark _))))) (pss_one (ps_ret (pe_cmpR (op_eqK (K := K) hq) (pe_fn c__law_draw (hr.mono (by decide)) (by with_unfolding_all rfl) (pa_cons (pv 0) (pa_cons (pe_op op_mulB pe_int (pv 1)) pa_nil))) pe_int (nomark _)))) pss_nil)
      (pss_cons (ps_if (pt_cmpR (op_eqK (K := K) hq) (pv 1) pe_int (nomark _)) (pss_one (ps_ret (pe_cmpR op_gt (pe_fn c__law_draw (hr.mono (by decide)) (by with_unfolding_all rfl) (pa_cons (pv 0) (pa_cons pe_int pa_nil))) pe_int (nomark _)))) pss_nil)
      (pss_cons (ps_if (pt_cmpR (op_eqK (K := K) hq) (pv 1) pe_int (nomark _)) (pss_one (ps_ret (pe_cmpR (op_eqK (K := K) hq) (pe_op op_sub (pv 3) (pv 2)) (pe_op (op_addK (K := K)) pe_int (pe_op op_mod (pv 4) pe_int)) (nomark _)))) pss_nil)
      (pss_cons (ps_if (pt_cmpR (op_eqK (K := K) hq) (pv 1) pe_int (nomark _)) (pss_one (ps_ret (pe_chain op_lt op_le (pv 2) (pe_op op_fdivA (pv 4) pe_int) (pv 3)))) pss_nil)
      (pss_one (ps_ret (pe_and (pe_cmpR (op_eqK (K := K) hq) (pv 1) pe_int (nomark _)) (pe_one (pe_cmpR (op_eqK (K := K) hq) (pv 2) (pe_fn c__law_draw (hr.mono (by decide)) (by with_unfolding_all rfl) (pa_cons (pv 0) (pa_cons (pv 3) pa_nil))) (nomark _)))))))))), ?_⟩
    walk_at "rd"
    refine iteD (fun hw => ?_) (fun hw => ?_)
    · have hw' : way = 1 := by cases hw; rfl
      walk_at "rd"
      refine ⟨d, l, _, rfl, hF, by omega, by omega, fun u H1 hu0 hu1 e1 hF1 => ?_⟩
      walk_at "rd"
      exact k _ H1 e1 hF1
    · walk_at "rd"
      refine iteD (fun hw2 => ?_) (fun hw2 => ?_)
      · have hw' : way = 2 := by cases hw2; rfl
        walk_at "rd"
        refine ⟨d, l, _, rfl, hF, by omega, by omega, fun u H1 hu0 hu1 e1 hF1 => ?_⟩
        walk_at "rd"
        exact k _ H1 e1 hF1
      · walk_at "rd"
        refine iteD (fun hw3 => ?_) (fun hw3 => ?_)
        · walk_at "rd"
          refine ⟨d, l, _, rfl, hF, by omega, by omega, fun u H1 hu0 hu1 e1 hF1 => ?_⟩
          walk_at "rd"
          exact k _ H1 e1 hF1
        · walk_at "rd"
          refine iteD (fun hw4 => ?_) (fun hw4 => ?_)
          · walk_at "rd"
            exact k _ H .refl hF
          · walk_at "rd"
            refine iteD (fun hw5 => ?_) (fun hw5 => ?_)
            · walk_at "rd"
              refine iteD (fun h1 => ?_) (fun h1 => ?_)
              · walk_at "rd"
                exact k _ H .refl hF
              · exact k _ H .refl hF
            · walk_at "rd"
              refine iteD (fun h1 => ?_) (fun h1 => ?_)
              · walk_at "rd"
                refine ⟨d, l, _, rfl, hF, by omega, by omega, fun u H1 hu0 hu1 e1 hF1 => ?_⟩
                walk_at "rd"
                exact k _ H1 e1 hF1
              · exact k _ H .refl hF
theorem ok__law_half {f : Addr} {fd : FuncData} (F : Fun K "_law_half" "_law_half" s__law_half f fd) (T : TopF mg) (c__law_draw : Fnd P w K mg base 1 "_law_draw" ["_law_feed_here", "_law_many"] (sp__law_draw K)) (c__law_shuffled : Fnd P w K mg base 2 "_law_shuffled" ["_law_feed_here", "_law_some"] (sp__law_shuffled K)) (c__law_names : Fnd P w K mg base 3 "_law_names" ["_law_feed_here"] (sp__law_names K)) (c__law_is_laid : Fnd P w K mg base 2 "_law_is_laid" ["_law_feed_here", "_law_way", "_law_j", "_law_k", "_law_many"] (sp__law_is_laid K)) : FnOk P w K mg base CX0 4 f fd ["_law_feed_here", "_law_many"] (sp__law_half K) := by
  refine F.ok sc__law_half (fun vs H Q E h => ?_) (fun cdv A outer s H vs Q E hr h => ?_)
  · obtain ⟨d, l, n, rfl, _⟩ := h
    rfl
  · obtain ⟨d, l, n, rfl, hF, h0, h10, k⟩ := h
    have hu := hu_of hr
    have hq := qa_of hr
    with_reducible refine ⟨_, (pss_cons (ps_set (i := 2) sc__law_half.nd (by with_unfolding_all rfl) (by with_unfolding_all exact Or.inl rfl) (pe_slice (sl_K (K := K)) (pe_fn c__law_names (hr.mono (by decide)) (by with_unfolding_all rfl) (pa_cons (pv 0) pa_nil)) po_none (po_some (pv 1))))
      (pss_cons (ps_set (i := 3) sc__law_half.nd (by with_unfolding_all rfl) (by with_unfolding_all exact Or.inl rfl) (pe_fn c__law_shuffled (hr.mono (by decide)) (by with_unfolding_all rfl) (pa_cons (pv 0) (pa_cons (pv 2) pa_nil))))
      (pss_cons (ps_set (i := 4) sc__law_half.nd (by with_unfolding_all rfl) (by with_unfolding_all exact Or.inl rfl) (pe_fn c__law_draw (hr.mono (by decide)) (by with_unfolding_all rfl) (pa_cons (pv 0) (pa_cons pe_int pa_nil))))
      (pss_cons (ps_set (i := 5) sc__law_half.nd (by with_unfolding_all rfl) (by with_unfolding_all exact Or.inl rfl) (pe_lst pa_nil))
      (pss_cons (ps_for PassesOwn.never (by with_unfolding_all rfl) (pi_range2 (by with_unfolding_all rfl) T.b_range (pa_cons pe_int (pa_cons (pv 1) pa_nil))) (pg_name (i := 6) sc__law_half.nd (by with_unfolding_all rfl) (by with_unfolding_all exact Or.inl rfl))
      (pss_one (ps_for PassesOwn.never (by with_unfolding_all rfl) (pi_range1 (by with_unfolding_all rfl) T.b_range (pa_cons (pv 6) pa_nil)) (pg_name (i := 7) sc__law_half.nd (by with_unfolding_all rfl) (by with_unfolding_all exact Or.inl rfl))
      (pss_one (ps_if (pt_val (pe_fn c__law_is_laid (hr.mono (by decide)) (by with_unfolding_all rfl) (pa_cons (pv 0) (pa_cons (pv 4) (pa_cons (pv 7) (pa_cons (pv 6) (pa_cons (pv 1) pa_nil))))))) (pss_one (ps_expr (pe_bmK (K := K) PySem.F.plainAttrs_list PySem.F.slot_list_insert PySem.F.type_list_insert (mm mt_insert) (pv 5) (pa_cons (pe_fn c__law_draw (hr.mono (by decide)) (by with_unfolding_all rfl) (pa_cons (pv 0) (pa_cons (pe_op (op_addK (K := K)) (pe_callB (call_lenK (K := K)) (by with_unfolding_all rfl) T.b_len PyProof.Rows.Boot.«len» (pa_cons (pv 5) pa_nil)) pe_int) pa_nil))) (pa_cons (pe_tup (pa_cons (pe_ix (ix_anyK (K := K) hu) (pv 3) (pv 7) (by with_unfolding_all exact fun _ _ => rfl)) (pa_cons (pe_ix (ix_anyK (K := K) hu) (pv 3) (pv 6) (by with_unfolding_all exact fun _ _ => rfl)) pa_nil))) pa_nil))))) pss_nil)))))
      (pss_cons (ps_for PassesOwn.never (by with_unfolding_all rfl) (pi_anyK (K := K) hu (pe_slice (sl_K (K := K)) (pv 5) po_none (po_some pe_int))) (pg_name (i := 8) sc__law_half.nd (by with_unfolding_all rfl) (by with_unfolding_all exact Or.inl rfl))
      (pss_one (ps_if (pt_cmpR (op_eqK (K := K) hq) (pe_fn c__law_draw (hr.mono (by decide)) (by with_unfolding_all rfl) (pa_cons (pv 0) (pa_cons pe_int pa_nil))) pe_int (nomark _)) (pss_one (ps_set (i := 5) sc__law_half.nd (by with_unfolding_all rfl) (by with_unfolding_all exact Or.inl rfl) (pe_op (op_addK (K := K)) (pv 5) (pe_lst (pa_cons (pv 8) pa_nil))))) pss_nil)))
      (pss_one (ps_ret (pe_tup (pa_cons (pe_callTy (call_tupleK (K := K)) (by with_unfolding_all rfl) T.b_tuple PyProof.Rows.Boot.«tuple» (pa_cons (pv 2) pa_nil)) (pa_cons (pe_callTy (call_tupleK (K := K)) (by with_unfolding_all rfl) T.b_tuple PyProof.Rows.Boot.«tuple» (pa_cons (pe_slice (sl_K (K := K)) (pv 5) po_none (po_some pe_int)) pa_nil)) pa_nil))))))))))), ?_⟩
    walk_at "rd"
    refine ⟨d, l, rfl, hF, fun p1 n1 H1 hp1 e1 hF1 h1 hN1 hl1 => ?_⟩
    walk_at "rd"
    refine i_slL (SqL.of h1) fun p2 H2 hp2 e2 h2 => ?_
    rw [cut_upto h0, ← List.map_take] at h2
    have hN2 : Names (n1.take n.toNat) := hN1.sublist (List.take_sublist _ _)
    have hl2 : (n1.take n.toNat).length = n.toNat := by rw [List.length_take]; omega
    generalize n1.take n.toNat = ns at h2 hN2 hl2
    have hF2 := hF1.same e2
    walk_at "rd"
    refine ⟨d, l, p2, _, rfl, hF2, .inl (SqL.of h2), by rw [List.length_map]; omega, fun p3 ys3 H3 hp3 e3 hF3 h3 hperm => ?_⟩
    obtain ⟨ls, rfl, hpm⟩ := perm_strs9 hperm
    have hll := hpm.length_eq
    have h3n : H3 p2 = some (.lst (ns.map V.str)) := e3 _ _ (hF2.lst h2) h2
    walk_at "rd"
    refine ⟨d, l, _, rfl, hF3, by omega, by omega, fun way H4 hw0 hw1 e4 hF4 => ?_⟩
    have h4n := e4 _ _ (hF3.lst h3n) h3n
    have h4l := e4 _ _ (hF3.lst h3) h3
    walk_at "rd"
    refine i_newL (by decide) fun p5 H5 hp5 e5 h5 => ?_
    have fr4 : ExtBut d H H4 := by walk_at "fr"
    have hp50 : H p5 = none := hF4.free fr4 hp5
    have hF5 := hF4.same e5
    have h5n := e5 _ _ h4n
    have h5l := e5 _ _ h4l
    have n5 : p2 ≠ p5 := ne_of_none h4n hp5
    have l5 : p3 ≠ p5 := ne_of_none h4l hp5
    have hp5d : p5 ≠ d := hF5.lst h5
    have hp2d : p2 ≠ d := hF5.lst h5n
    have hp3d : p3 ≠ d := hF5.lst h5l
    walk_at "rd"
    refine i_rngw (by omega) ?_
    refine for_by walk_range (fun i σ H6 => ∃ xs qs x6 x7 x8, σ = [some (.ref d), some (.int n), some (.ref p2), some (.ref p3), some (.int way), some (.ref p5), x6, x7, x8] ∧ ExtBut d H H6 ∧ Feed H6 d l ∧ H6 p2 = some (.lst (ns.map V.str)) ∧ H6 p3 = some (.lst (ls.map V.str)) ∧ H6 p5 = some (.lst xs) ∧ IsL K H6 (qs.map prD) xs ∧ Up ls qs ∧ qs.length ≤ i * 10)
      ⟨[], [], _, _, _, rfl, by walk_at "fr", hF5, h5n, h5l, h5, .nil, .nil, by decide⟩ (fun _ _ _ _ => trivial) (fun i x σ H6 hx hi hP => ?_) (fun σ H6 hP => ?_)
    · obtain ⟨xs, qs, x6, x7, x8, rfl, e6, hF6, h6n, h6l, h6, hI6, hU6, hq6⟩ := hP
      obtain ⟨rfl, hi2⟩ := rng_get hx
      walk_at "rd"
      refine i_rngv (by omega) ?_
      refine for_by walk_range (fun j σ H7 => ∃ ys rs x7 x8, σ = [some (.ref d), some (.int n), some (.ref p2), some (.ref p3), some (.int way), some (.ref p5), some (.int (1 + (i : Int))), x7, x8] ∧ ExtBut d H H7 ∧ Feed H7 d l ∧ H7 p2 = some (.lst (ns.map V.str)) ∧ H7 p3 = some (.lst (ls.map V.str)) ∧ H7 p5 = some (.lst ys) ∧ IsL K H7 (rs.map prD) ys ∧ Up ls rs ∧ rs.length ≤ i * 10 + j)
        ⟨xs, qs, _, _, rfl, e6, hF6, h6n, h6l, h6, hI6, hU6, by omega⟩ (fun _ _ _ _ => trivial) (fun j x σ H7 hx7 hj hP => ?_) (fun σ H7 hP => ?_)
      · obtain ⟨ys, rs, x7, x8, rfl, e7, hF7, h7n, h7l, h7, hI7, hU7, hq7⟩ := hP
        obtain ⟨rfl, hj2⟩ := rng_get hx7
        have hyl := len_prs4 hI7
        walk_at "rd"
        refine ⟨d, l, way, _, _, n, rfl, hF7, hw0, hw1, by omega, by omega, fun b H8 e8 hF8 => ?_⟩
        have h8n := e8 _ _ hp2d h7n
        have h8l := e8 _ _ hp3d h7l
        have h8 := e8 _ _ hp5d h7
        have hI8 := IsL.fz (hF7.fz e8) _ _ (frzL_prs rs) hI7
        walk_at "rd"
        refine iteB (fun hb => ?_) (fun hb => ?_)
        · walk_at "rd"
          refine ⟨d, l, _, rfl, hF8, by omega, by omega, fun u H9 hu0 hu1 e9 hF9 => ?_⟩
          have h9n := e9 _ _ hp2d h8n
          have h9l := e9 _ _ hp3d h8l
          have h9 := e9 _ _ hp5d h8
          obtain ⟨z1, hz1, hz1', _⟩ := str_at? (ls := ls) (i := 0 + (j : Int)) (by omega) (by omega)
          obtain ⟨z2, hz2, hz2', _⟩ := str_at? (ls := ls) (i := 1 + (i : Int)) (by omega) (by omega)
          walk_at "rd"
          refine i_ixL h9l hz1' ?_
          walk_at "rd"
          refine i_ixL h9l hz2' ?_
          walk_at "rd"
          refine i_newT (line_of (by simp)) fun t10 H10 ht10 e10 h10 => ?_
          walk_at "rd"
          refine i_ins (e10 _ _ h9) hu0 (by omega) (by omega) fun H11 e11 h11 => ?_
          have fz9 := hF8.fz e9
          have fz11 : Fz H10 H11 := e11.fzL (e10 _ _ h9)
          have hUp : Up ls [(z1, z2)] := fun p hp => by
            have : p = (z1, z2) := by simpa using hp
            rw [this]
            exact ⟨(0 + (j : Int)).toNat, (1 + (i : Int)).toNat, by omega, hz1, hz2⟩
          walk_at "rd"
          refine ⟨_, _, _, _, rfl, by walk_at "fr", by walk_at "fd", e11 _ _ n5 (e10 _ _ h9n), e11 _ _ l5 (e10 _ _ h9l), h11, isL_ins4 u.toNat (IsL.fz ((fz9.trans e10.fz).trans fz11) _ _ (frzL_prs rs) hI8) ((is_pr (SqT.of h10)).pr_fz fz11), up_ins _ hU7 hUp, ?_⟩
          rw [List.length_append, List.length_cons, List.length_take, List.length_drop]
          omega
        · walk_at "rd"
          exact ⟨ys, rs, _, _, rfl, e7.trans e8, hF8, h8n, h8l, h8, hI8, hU7, by omega⟩
      · obtain ⟨ys, rs, x7, x8, rfl, e7, hF7, h7n, h7l, h7, hI7, hU7, hq7⟩ := hP
        rw [List.length_map, List.length_range] at hq7
        exact ⟨ys, rs, _, _, _, rfl, e7, hF7, h7n, h7l, h7, hI7, hU7, by omega⟩
    · obtain ⟨xs, qs, x6, x7, x8, rfl, e6, hF6, h6n, h6l, h6, hI6, hU6, hq6⟩ := hP
      rw [List.length_map, List.length_range] at hq6
      have hxl := len_prs4 hI6
      walk_at "rd"
      refine i_slL (SqL.of h6) fun p7 H7 hp7 e7 h7 => ?_
      rw [cut_upto (by decide)] at h7
      have hI7 : IsL K H7 ((qs.take 5).map prD) (xs.take 5) := by rw [List.map_take]; exact IsL.take 5 (IsL.mono e7 _ _ hI6)
      have hp7d : p7 ≠ d := (hF6.same e7).lst h7
      refine i_itL (SqL.of h7) ?_
      refine for_by (walk_list (xs := xs.take 5)) (fun i σ H8 => ∃ p8 ys rs x6 x7 x8, σ = [some (.ref d), some (.int n), some (.ref p2), some (.ref p3), some (.int way), some (.ref p8), x6, x7, x8] ∧ ExtBut d H H8 ∧ Feed H8 d l ∧ Fz H7 H8 ∧ H8 p2 = some (.lst (ns.map V.str)) ∧ H8 p7 = some (.lst (xs.take 5)) ∧ H8 p8 = some (.lst ys) ∧ IsL K H8 (rs.map prD) ys ∧ Up ls rs ∧ rs.length ≤ 100 + i)
        ⟨p5, xs, qs, _, _, _, rfl, by walk_at "fr", hF6.same e7, .refl _, e7 _ _ h6n, h7, e7 _ _ h6, IsL.mono e7 _ _ hI6, hU6, by omega⟩ (fun i σ' H' hP => ?_) (fun i x σ H8 hx8 hi hP => ?_) (fun σ H8 hP => ?_)
      · obtain ⟨_, _, _, _, _, _, _, _, _, _, _, h, _⟩ := hP
        exact SqL.of h
      · obtain ⟨p8, ys, rs, x6, x7, x8, rfl, e8, hF8, fz8, h8n, h87, h8, hI8, hU8, hq8⟩ := hP
        obtain ⟨dp, hdp, hip⟩ := IsL.get hI7 hx8
        rw [List.getElem?_map] at hdp
        have hyl := len_prs4 hI8
        have hi5 : i < 5 := by rw [List.length_take] at hi; omega
        cases hpr : (qs.take 5)[i]? with
        | none => rw [hpr] at hdp; cases hdp
        | some pr =>
          rw [hpr] at hdp
          cases hdp
          have hUp : Up ls [pr] := hU6.sub fun z hz => by
            have : z = pr := by simpa using hz
            subst this
            exact List.mem_of_mem_take (List.mem_of_getElem? hpr)
          walk_at "rd"
          refine ⟨d, l, _, rfl, hF8, by omega, by omega, fun u H9 hu0 hu1 e9 hF9 => ?_⟩
          have h9n := e9 _ _ hp2d h8n
          have h97 := e9 _ _ hp7d h87
          have h9 := e9 _ _ (hF8.lst h8) h8
          have fz9 := hF8.fz e9
          walk_at "rd"
          refine iteD (fun hu' => ?_) (fun hu' => ?_)
          · walk_at "rd"
            refine i_newL (line_of (by simp)) fun q10 H10 hq10 e10 h10 => ?_
            refine i_addL (e10 _ _ h9) h10 (line_of (by simp; omega)) fun q11 H11 hq11 e11 h11 => ?_
            walk_at "rd"
            have e911 : Same H9 H11 := e10.trans e11
            refine ⟨q11, _, rs ++ [pr], _, _, _, rfl, by walk_at "fr", hF9.same e911, (fz8.trans fz9).trans e911.fz, e911 _ _ h9n, e911 _ _ h97, h11, ?_, ?_, by rw [List.length_append, List.length_singleton]; omega⟩
            · rw [List.map_append]
              exact IsL.append (IsL.fz (fz9.trans e911.fz) _ _ (frzL_prs rs) hI8) (.one (Is.fz ((fz8.trans fz9).trans e911.fz) _ _ (frz_pr pr) hip))
            · intro z hz
              rcases List.mem_append.mp hz with hz | hz
              · exact hU8 z hz
              · exact hUp z hz
          · walk_at "rd"
            exact ⟨p8, ys, rs, _, _, _, rfl, e8.trans e9, hF9, fz8.trans fz9, h9n, h97, h9, IsL.fz fz9 _ _ (frzL_prs rs) hI8, hU8, by omega⟩
      · obtain ⟨p8, ys, rs, x6, x7, x8, rfl, e8, hF8, fz8, h8n, h87, h8, hI8, hU8, hq8⟩ := hP
        have hyl := len_prs4 hI8
        walk_at "rd"
        refine i_tupleL (SqL.of h8n) fun t9 H9 ht9 e9 h9 => ?_
        walk_at "rd"
        refine i_slL (SqL.of (e9 _ _ h8)) fun q10 H10 hq10 e10 h10 => ?_
        rw [cut_upto (by decide)] at h10
        walk_at "rd"
        refine i_tupleL (SqL.of h10) fun t11 H11 ht11 e11 h11 => ?_
        walk_at "rd"
        refine i_newT (line_of (by simp)) fun t12 H12 ht12 e12 h12 => ?_
        have e912 : Same H9 H12 := (e10.trans e11).trans e12
        have hI12 : IsL K H12 ((rs.take 60).map prD) (ys.take 60) := by rw [List.map_take]; exact IsL.take 60 (IsL.mono (e9.trans e912) _ _ hI8)
        refine k (.ref t12) ns (rs.take 60) H12 (by walk_at "fr") (by walk_at "fd") (is_hf (SqT.of h12) ((is_nm (SqT.of h9)).nm_fz e912.fz) (Is.of_tup (SqT.of (e12 _ _ h11)) hI12)) (half_of9 hN2 (by omega) hpm (hU8.sub fun z hz => List.mem_of_mem_take hz) (by rw [List.length_take]; omega)) hl2
noncomputable def sp__law_over (K : PySem.W.Frag) : Sp := fun vs H Q _ => ∃ v ns ps, vs = [v] ∧ Is K H (hfD ns ps) v ∧ HalfW ns ps ∧ ns.length ≤ 10 ∧ (∀ z ∈ ns, PyData.strOk z = true) ∧ ∀ r as H', H r = none → Same H H' → TabL K H' r ns as (Way ps) → Q (.ref r) H'
theorem ok__law_over {f : Addr} {fd : FuncData} (F : Fun K "_law_over" "_law_over" s__law_over f fd) (T : TopF mg) : FnOk P w K mg base CX0 1 f fd ["_law_half_here"] (sp__law_over K) := by
  refine F.ok sc__law_over (fun vs H Q E h => ?_) (fun cdv A outer s H vs Q E hr h => ?_)
  · obtain ⟨v, ns, ps, rfl, _⟩ := h
    rfl
  · obtain ⟨v, ns, ps, rfl, hI, hW, h10, hok1, k⟩ := h
    have hu := hu_of hr
    have hq := qa_of hr
    have hn := hW.nd
    have hm := hW.mem
    with_reducible refine ⟨_, (pss_cons (ps_set (i := 1) sc__law_over.nd (by with_unfolding_all rfl) (by with_unfolding_all exact Or.inr rfl) (pe_callTy (call_dictK (K := K) hr.hd) (by with_unfolding_all rfl) T.b_dict PyProof.Rows.Boot.«dict» (pa_cons (pe_comp ["_law_name"] [] [] (by with_unfolding_all rfl) (by with_unfolding_all rfl) (by with_unfolding_all rfl) (pi_anyK (K := K) hu (pe_ix (ix_anyK (K := K) hu) (pv 0) pe_int (by with_unfolding_all exact fun _ _ => rfl))) (fun _ _ _ _ => (pg_name (i := 0) (by with_unfolding_all (show (["_law_name"] : List Str).Nodup; decide +kernel)) (by with_unfolding_all rfl) (by with_unfolding_all exact Or.inl rfl))) (gk_name (by decide)) (fun _ _ _ _ => pif_nil) (fun _ _ _ _ => (pe_tup (pa_cons (pv 0) (pa_cons (pe_lst pa_nil) pa_nil))))) pa_nil)))
      (pss_cons (ps_set (i := 2) sc__law_over.nd (by with_unfolding_all rfl) (by with_unfolding_all exact Or.inl rfl) pe_bl)
      (pss_cons (ps_while PassesOwn.never (pt_val (pv 2))
      (pss_cons (ps_set (i := 2) sc__law_over.nd (by with_unfolding_all rfl) (by with_unfolding_all exact Or.inl rfl) pe_bl)
      (pss_one (ps_for PassesOwn.never (by with_unfolding_all rfl) (pi_anyK (K := K) hu (pe_ix (ix_anyK (K := K) hu) (pv 0) pe_int (by with_unfolding_all exact fun _ _ => rfl))) (pg_tupK (K := K) (n := 2) (by with_unfolding_all rfl) (pgs_cons (pg_name (i := 3) sc__law_over.nd (by with_unfolding_all rfl) (by with_unfolding_all exact Or.inr rfl)) (pgs_cons (pg_name (i := 4) sc__law_over.nd (by with_unfolding_all rfl) (by with_unfolding_all exact Or.inl rfl)) pgs_nil)))
      (pss_cons (ps_setcomp (i := 5) ["_law_name"] ["_law_found", "_law_one"] [1, 3] (by with_unfolding_all rfl) (by with_unfolding_all rfl) (by with_unfolding_all rfl) sc__law_over.nd (by with_unfolding_all rfl) (by with_unfolding_all rfl) (pi_anyK (K := K) hu (pe_op (op_addK (K := K)) (pe_lst (pa_cons (pv 4) pa_nil)) (pe_ix (ix_anyK (K := K) hu) (pv 1) (pv 4) (by with_unfolding_all exact fun _ _ => rfl)))) (fun _ _ _ _ => (pg_name (i := 0) (by with_unfolding_all (show (["_law_name", "_law_found", "_law_one"] : List Str).Nodup; decide +kernel)) (by with_unfolding_all rfl) (by with_unfolding_all exact Or.inl rfl))) (gk_name (by decide)) (fun _ _ _ _ => (pif_one (pt_cmpR (op_notInK (K := K) hq) (pv 0) (pe_ix (ix_anyK (K := K) hu) (pv 1) (pv 2) (by with_unfolding_all exact fun _ _ => rfl)) (by with_unfolding_all rfl)))) (fun _ _ _ _ => (pv 0)))
      (pss_cons (ps_set (i := 2) sc__law_over.nd (by with_unfolding_all rfl) (by with_unfolding_all exact Or.inl rfl) (pe_or (pv 2) (pe_one (pe_cmpR (op_neK (K := K) hq) (pv 5) (pe_lst pa_nil) (nomark _)))))
      (pss_one (ps_dput hu (pv 1) (pv 3) (pe_op (op_addK (K := K)) (pe_ix (ix_anyK (K := K) hu) (pv 1) (pv 3) (by with_unfolding_all exact fun _ _ => rfl)) (pv 5)) (by with_unfolding_all rfl)))))))))
      (pss_one (ps_ret (pv 1)))))), ?_⟩
    walk_at "rd"
    refine i_ixH0 hI fun nv hN => ?_
    obtain ⟨na, rfl, hS⟩ := hN.nm
    refine i_itT hS ?_
    refine comp_by (walk_tup (xs := ns.map V.str)) (fun p i acc H1 => Same H H1 ∧ ∃ as : List Addr, as.length = i ∧ (∀ (j : Nat) (z : Str) (a : Addr), ns[j]? = some z → as[j]? = some a → H1 a = some (.lst []) ∧ a ≠ p) ∧ PrsK K H1 (tabK (ns.take i) as) acc) (fun p H' hp e h => ⟨e, [], rfl, fun j z a _ h => (by simp at h), by rfl⟩) (fun p i acc H1 hP => hP.1.seqT hS) (fun p i x acc H1 hp hx hi hl ha hP => ?_) fun p acc H1 hp ha hl hP => ?_
    · obtain ⟨e1, as, hal, hrow, hpr⟩ := hP
      rw [List.getElem?_map] at hx
      cases hz : ns[i]? with
      | none => rw [hz] at hx; cases hx
      | some z =>
        rw [hz] at hx
        cases hx
        have hin : i < ns.length := (List.getElem?_eq_some_iff.mp hz).1
        walk_at "rd"
        refine i_newL (by decide) fun b H2 hb2 e2 h2 => ?_
        walk_at "rd"
        refine i_newT (line_of (by simp)) fun t H3 ht3 e3 h3 => ?_
        have h3p : H3 p = some (.lst acc) := e3 _ _ (e2 _ _ ha)
        refine push_i (by rw [List.length_map]; omega) hi hl h3p fun H4 e4 h4 => ?_
        have hbp : b ≠ p := Ne.symm (ne_of_none ha hb2)
        refine ⟨by walk_at "sm", as ++ [b], by simp [hal], fun j y a hj haj => ?_, ?_⟩
        · by_cases hji : j < as.length
          · rw [List.getElem?_append_left hji] at haj
            obtain ⟨q1, q2⟩ := hrow j y a hj haj
            exact ⟨e4 _ _ q2 (e3 _ _ (e2 _ _ q1)), q2⟩
          · have hj' : j = as.length := by
              have := (List.getElem?_eq_some_iff.mp haj).1
              rw [List.length_append, List.length_singleton] at this
              omega
            subst hj'
            have : a = b := by simpa using haj.symm
            subst this
            exact ⟨e4 _ _ hbp (e3 _ _ h2), hbp⟩
        · have ht : ns.take (i + 1) = ns.take i ++ [z] := by rw [List.take_add_one, hz]; rfl
          have hlen : (ns.take i).length = as.length := by rw [List.length_take, hal]; omega
          rw [ht, tab_snoc hlen]
          have fz4 := e4.fzL h3p
          exact PrsK.snoc (kv := (Sum.inr z, V.ref b)) (fz4.seq (SqT.of h3)) (PrsK.fz ((e2.fz.trans e3.fz).trans fz4) hpr)
    · obtain ⟨e1, as, hal, hrow, hpr⟩ := hP
      rw [List.length_map] at hal
      rw [List.length_map, List.take_length] at hpr
      walk_at "rd"
      refine i_dict ha hpr (by unfold tabK; rw [List.length_map, List.length_zip]; omega) fun r H2 hr2 e2 h2 => ?_
      rw [merge_new _ _ (keys_tab hn) (fun _ _ _ h => by cases h), List.nil_append] at h2
      have hr0 : H r = none := e1.free hr2
      have hO2 : Ovr H2 r ns as (fun _ => []) := ⟨hal, h2, fun j z a hj haj => e2 _ _ (hrow j z a hj haj).1⟩
      have hK0 : OvOk ns ps (fun _ => []) := ⟨fun _ _ => List.nodup_nil, fun _ _ y hy => by cases hy⟩
      have hE2 : Same H H2 := e1.trans e2
      have hfull : ∀ ov, OvOk ns ps ov → totO ns ov ≤ 100 := fun ov h => Nat.le_trans (h.tot hm) (Nat.le_trans (Nat.mul_le_mul h10 h10) (by decide))
      walk_at "rd"
      refine i_while (fun m σ H3 => ∃ b ov as x3 x4 x5, σ = [some v, some (.ref r), some (.bl b), x3, x4, x5] ∧ Same H H3 ∧ Ovr H3 r ns as ov ∧ OvOk ns ps ov ∧ m = 2 * (100 - totO ns ov) + b.toNat ∧ (b = false → ∀ p ∈ ps, p.2 ∈ ov p.1 ∧ ∀ y ∈ ov p.2, y ∈ ov p.1))
        (2 * (100 - totO ns fun _ => []) + 1) ⟨true, _, as, _, _, _, rfl, hE2, hO2, hK0, rfl, fun h => by cases h⟩ fun m σ H3 hP => ?_
      obtain ⟨b, ov, as3, x3, x4, x5, rfl, e3, hO3, hK3, hm3, hc3⟩ := hP
      have hf3 := hfull ov hK3
      walk_at "rd"
      refine iteB (fun hb => ?_) (fun hb => ?_)
      · subst hb
        refine i_turn ?_
        walk_at "rd"
        refine i_ixH1 (hI.hf_fz e3.fz) fun pv hP3 => ?_
        refine for_ps hP3 (fun i σ H4 => ∃ b ov4 as4 x3 x4 x5, σ = [some v, some (.ref r), some (.bl b), x3, x4, x5] ∧ Same H H4 ∧ Fz H3 H4 ∧ Ovr H4 r ns as4 ov4 ∧ OvOk ns ps ov4 ∧ totO ns ov ≤ totO ns ov4 ∧ (b = true → totO ns ov < totO ns ov4) ∧ (b = false → ov4 = ov ∧ ∀ p ∈ ps.take i, p.2 ∈ ov p.1 ∧ ∀ y ∈ ov p.2, y ∈ ov p.1))
          ⟨false, ov, as3, _, _, _, rfl, e3, .refl _, hO3, hK3, Nat.le_refl _, (fun h => by cases h), fun _ => ⟨rfl, fun p hp => by simp at hp⟩⟩ (fun i σ' H' hP => ?_) (fun i p pv4 σ' H4 hp hpI hP => ?_) (fun σ' H4 hP => ?_)
        · obtain ⟨_, _, _, _, _, _, _, _, fz, _⟩ := hP
          exact fz
        · obtain ⟨b4, ov4, as4, y3, y4, y5, rfl, e4, fz4, hO4, hK4, ht1, ht2, ht3⟩ := hP
          have hpm := hm p (List.mem_of_getElem? hp)
          obtain ⟨i1, a1, hi1, ha1⟩ := hO4.at hpm.1
          obtain ⟨i2, a2, hi2, ha2⟩ := hO4.at hpm.2
          have hr1 := hO4.row _ _ _ hi1 ha1
          have hr2' := hO4.row _ _ _ hi2 ha2
          have hl1 := hK4.len hm hpm.1
          have hl2 := hK4.len hm hpm.2
          refine i_gpair hpI ?_
          walk_at "rd"
          refine i_newL (line_of (by simp)) fun q5 H5 hq5 e5 h5 => ?_
          walk_at "rd"
          refine i_ixD (e5 _ _ hO4.top) (valV_tab hn hi2 ha2) ?_
          refine i_addL h5 (e5 _ _ hr2') (line_of (by rw [List.length_map]; simp; omega)) fun q6 H6 hq6 e6 h6 => ?_
          have h6' : H6 q6 = some (.lst ((p.2 :: ov4 p.2).map V.str)) := h6
          have hO6 := (hO4.same e5).same e6
          refine comp_lnm (SqL.of h6') (fun z => !decide (z ∈ ov4 p.1)) PyData.str (fun _ => rfl) (by simp; omega) (fun jj z H7 R R' hz e7 hR hR' => ?_) (fun q7 ys7 H7 hq7 e7 h7 hL7 => ?_)
          · have hO7 := hO6.same e7
            walk_at "rd"
            refine i_ixD hO7.top (valV_tab hn hi1 ha1) ?_
            refine i_ninLN (SqL.of (hO7.row _ _ _ hi1 ha1)) ?_
            walk_at "rd"
            refine iteNB (fun hb => ?_) (fun hb => ?_)
            · walk_at "rd"
              exact hR (by rw [hb]; rfl) _ _ (.refl _) is_str
            · exact hR' (by rw [hb]; rfl) _ (.refl _)
          · have hy7 := IsL.str_eq hL7
            subst hy7
            have h7' : H7 q7 = some (.lst ((frsh ov4 p).map V.str)) := h7
            have hfl : (frsh ov4 p).length ≤ 11 := Nat.le_trans (List.length_filter_le _ _) (by simp; omega)
            have hfok : SeqAt.shaped (.list ((frsh ov4 p).map PyData.str)) = true := fine_lst fun z hz => by
              rcases List.mem_cons.mp (List.mem_filter.mp hz).1 with e | e
              · exact e ▸ hok1 _ hpm.2
              · obtain ⟨p', hp', e'⟩ := List.mem_map.mp (hK4.way _ hpm.2 z e).right
                exact hok1 _ (e' ▸ (hm p' hp').2)
            have hO7 := hO6.same e7
            have e47 : Same H4 H7 := (e5.trans e6).trans e7
            walk_at "rd"
            have put : ∀ H8, Same H7 H8 → ∀ b8, (b8 = true → b4 = true ∨ frsh ov4 p ≠ []) → (b8 = false → b4 = false ∧ frsh ov4 p = []) →
                ∀ H9, ExtBut r H8 H9 → ∀ q9, H8 q9 = some (.lst ((ov4 p.1 ++ frsh ov4 p).map V.str)) → H9 r = some (.dK (putK (tabK ns as4) (Sum.inr p.1 : Key) (.ref q9))) →
                ∃ b ov5 as5 x3 x4 x5, ([some v, some (.ref r), some (.bl b8), some (.str p.1), some (.str p.2), some (.ref q7)] : L2.St) = [some v, some (.ref r), some (.bl b), x3, x4, x5] ∧ Same H H9 ∧ Fz H3 H9 ∧ Ovr H9 r ns as5 ov5 ∧ OvOk ns ps ov5 ∧ totO ns ov ≤ totO ns ov5 ∧ (b = true → totO ns ov < totO ns ov5) ∧ (b = false → ov5 = ov ∧ ∀ p ∈ ps.take (i + 1), p.2 ∈ ov p.1 ∧ ∀ y ∈ ov p.2, y ∈ ov p.1) := by
              intro H8 e8 b8 hb1 hb2 H9 e9 q9 h9 ht9
              have hO8 := hO7.same e8
              have htot := tot_put (ov := ov4) hn hpm.1 (frsh ov4 p)
              refine ⟨b8, _, _, _, _, _, rfl, (e4.trans (e47.trans e8)).off hr0 e9, (fz4.trans (e47.trans e8).fz).trans (e9.fzD hO8.top), hO8.put hn hi1 e9 h9 ht9, hK4.put hW.irr (List.mem_of_getElem? hp) hpm, by omega, fun h => ?_, fun h => ?_⟩
              · rcases hb1 h with h | h
                · have := ht2 h
                  omega
                · have : 0 < (frsh ov4 p).length := List.length_pos_iff.mpr h
                  omega
              · obtain ⟨h1, h2⟩ := hb2 h
                obtain ⟨g1, g2⟩ := ht3 h1
                rw [h2, ovP_nil]
                refine ⟨g1, fun p' hp' => ?_⟩
                rw [List.take_add_one, hp] at hp'
                rcases List.mem_append.mp hp' with hp' | hp'
                · exact g2 p' hp'
                · have : p' = p := by simpa using hp'
                  rw [this, ← g1]
                  exact frsh_nil h2
            refine iteB (fun hb4 => ?_) (fun hb4 => ?_)
            · walk_at "rd"
              refine i_ixD hO7.top (valV_tab hn hi1 ha1) ?_
              walk_at "rd"
              refine i_addL (hO7.row _ _ _ hi1 ha1) h7' (line_of (by rw [List.length_map, List.length_map]; omega)) fun q8 H8 hq8 e8 h8 => ?_
              rw [← List.map_append] at h8
              walk_at "rd"
              refine i_dput (hO7.same e8).top (by unfold tabK; rw [List.length_map, List.length_zip]; omega) fun H9 e9 h9 => ?_
              walk_at "rd"
              exact put H8 e8 true (fun _ => .inl hb4) (fun h => by cases h) H9 e9 q8 h8 h9
            · walk_at "rd"
              refine i_newL (by decide) fun q8 H8 hq8 e8 h8 => ?_
              refine i_neD (dx := .list ((frsh ov4 p).map PyData.str)) (dy := .list []) (Is.of_lst (SqL.of (e8 _ _ h7')) (is_strs _)) (Is.of_lst (SqL.of h8) .nil) hfok (by rfl) ?_
              rw [eqv_nil_strs]
              have hO8 := hO7.same e8
              walk_at "rd"
              refine i_ixD hO8.top (valV_tab hn hi1 ha1) ?_
              walk_at "rd"
              refine i_addL (hO8.row _ _ _ hi1 ha1) (e8 _ _ h7') (line_of (by rw [List.length_map, List.length_map]; omega)) fun q9 H9 hq9 e9 h9 => ?_
              rw [← List.map_append] at h9
              walk_at "rd"
              refine i_dput (hO8.same e9).top (by unfold tabK; rw [List.length_map, List.length_zip]; omega) fun H10 e10 h10' => ?_
              walk_at "rd"
              refine put H9 (e8.trans e9) _ (fun h => .inr fun e => ?_) (fun h => ⟨hb4, ?_⟩) H10 e10 q9 h9 h10'
              · rw [e] at h
                cases h
              · cases hfe : frsh ov4 p with
                | nil => rfl
                | cons z t => rw [hfe] at h; cases h
        · obtain ⟨b4, ov4, as4, y3, y4, y5, rfl, e4, fz4, hO4, hK4, ht1, ht2, ht3⟩ := hP
          have hf4 := hfull ov4 hK4
          have hm1 : m = 2 * (100 - totO ns ov) + 1 := hm3
          refine ⟨2 * (100 - totO ns ov4) + b4.toNat, ?_, b4, ov4, as4, _, _, _, rfl, e4, hO4, hK4, rfl, fun h => ?_⟩
          · cases b4 with
            | true =>
              have := ht2 rfl
              show 2 * (100 - totO ns ov4) + 1 < m
              omega
            | false =>
              show 2 * (100 - totO ns ov4) + 0 < m
              omega
          · obtain ⟨g1, g2⟩ := ht3 h
            rw [List.take_length] at g2
            rw [g1]
            exact g2
      · subst hb
        walk_at "rd"
        exact k r as3 H3 hr0 e3 (hO3.tab hK3 (hc3 rfl))
noncomputable def sp__law_next_ones (K : PySem.W.Frag) : Sp := fun vs H Q _ => ∃ v u r as ns ps row, vs = [v, .ref r, u] ∧ Is K H (hfD ns ps) v ∧ TabL K H r ns as (Way ps) ∧ Is K H (nmD row) u ∧ ns.Nodup ∧ ns.length ≤ 10 ∧ (∀ z ∈ ns, PyData.strOk z = true) ∧ ∀ l H', H l = none → Same H H' → H' l = some (.lst ((frF (wayB ps) (leftF ns row)).map V.str)) → Q (.ref l) H'
theorem ok__law_next_ones {f : Addr} {fd : FuncData} (F : Fun K "_law_next_ones" "_law_next_ones" s__law_next_ones f fd) (T : TopF mg) : FnOk P w K mg base CX0 1 f fd ["_law_half_here", "_law_over_here", "_law_begun"] (sp__law_next_ones K) := by
  refine F.ok sc__law_next_ones (fun vs H Q E h => ?_) (fun cdv A outer s H vs Q E hr h => ?_)
  · obtain ⟨v, u, r, as, ns, ps, row, rfl, _⟩ := h
    rfl
  · obtain ⟨v, u, r, as, ns, ps, row, rfl, hI, hT, hU, hn, h10, hok1, k⟩ := h
    have hu := hu_of hr
    have hq := qa_of hr
    with_reducible refine ⟨_, (pss_cons (ps_set (i := 3) sc__law_next_ones.nd (by with_unfolding_all rfl) (by with_unfolding_all exact Or.inr rfl) (pe_comp ["_law_name"] ["_law_begun"] [2] (by with_unfolding_all rfl) (by with_unfolding_all rfl) (by with_unfolding_all rfl) (pi_anyK (K := K) hu (pe_ix (ix_anyK (K := K) hu) (pv 0) pe_int (by with_unfolding_all exact fun _ _ => rfl))) (fun _ _ _ _ => (pg_name (i := 0) (by with_unfolding_all (show (["_law_name", "_law_begun"] : List Str).Nodup; decide +kernel)) (by with_unfolding_all rfl) (by with_unfolding_all exact Or.inl rfl))) (gk_name (by decide)) (fun _ _ _ _ => (pif_one (pt_cmpR (op_notInK (K := K) hq) (pv 0) (pv 1) (by with_unfolding_all rfl)))) (fun _ _ _ _ => (pv 0))))
      (pss_one (ps_ret (pe_comp ["_law_name"] ["_law_left", "_law_over_here"] [3, 1] (by with_unfolding_all rfl) (by with_unfolding_all rfl) (by with_unfolding_all rfl) (pi_anyK (K := K) hu (pv 3)) (fun _ _ _ _ => (pg_name (i := 0) (by with_unfolding_all (show (["_law_name", "_law_left", "_law_over_here"] : List Str).Nodup; decide +kernel)) (by with_unfolding_all rfl) (by with_unfolding_all exact Or.inr rfl))) (gk_name (by decide)) (fun _ _ _ _ => (pif_one (pt_cmpR (op_eqK (K := K) hq) (pe_comp ["_law_one"] ["_law_name", "_law_over_here"] [0, 2] (by with_unfolding_all rfl) (by with_unfolding_all rfl) (by with_unfolding_all rfl) (pi_anyK (K := K) hu (pv 1)) (fun _ _ _ _ => (pg_name (i := 0) (by with_unfolding_all (show (["_law_one", "_law_name", "_law_over_here"] : List Str).Nodup; decide +kernel)) (by with_unfolding_all rfl) (by with_unfolding_all exact Or.inl rfl))) (gk_name (by decide)) (fun _ _ _ _ => (pif_one (pt_cmpR (op_inK (K := K) hq) (pv 1) (pe_ix (ix_anyK (K := K) hu) (pv 2) (pv 0) (by with_unfolding_all exact fun _ _ => rfl)) (by with_unfolding_all rfl)))) (fun _ _ _ _ => (pv 0))) (pe_lst pa_nil) (nomark _)))) (fun _ _ _ _ => (pv 0)))))), ?_⟩
    walk_at "rd"
    refine i_ixH0 hI fun nv hN => ?_
    refine comp_nm hN (fun z => !decide (z ∈ row)) PyData.str (fun _ => rfl) (by omega) (fun jj z H1 R R' hz e1 hR hR' => ?_) (fun lf ys1 H1 hlf e1 h1 hL1 => ?_)
    · walk_at "rd"
      refine i_ninN (hU.nm_fz e1.fz) ?_
      walk_at "rd"
      refine iteNB (fun hb => ?_) (fun hb => ?_)
      · walk_at "rd"
        exact hR (by rw [hb]; rfl) _ _ (.refl _) is_str
      · exact hR' (by rw [hb]; rfl) _ (.refl _)
    · have hy1 := IsL.str_eq hL1
      subst hy1
      have h1' : H1 lf = some (.lst ((leftF ns row).map V.str)) := h1
      have hlfl : (leftF ns row).length ≤ ns.length := List.length_filter_le _ _
      have hlfn : ∀ z ∈ leftF ns row, z ∈ ns := fun z hz => (List.mem_filter.mp hz).1
      walk_at "rd"
      refine comp_lnm (SqL.of h1') (fun z => !((leftF ns row).any fun y => wayB ps y z)) PyData.str (fun _ => rfl) (by omega) (fun jj z H2 R R' hz e2 hR hR' => ?_) (fun q2 ys2 H2 hq2 e2 h2 hL2 => ?_)
      · walk_at "rd"
        refine comp_lnm (SqL.of (e2 _ _ h1')) (fun y => wayB ps y z) PyData.str (fun _ => rfl) (by omega) (fun kk y H3 R2 R2' hy e3 hR2 hR2' => ?_) (fun q3 ys3 H3 hq3 e3 h3 hL3 => ?_)
        · have hT3 := hT.same ((e1.trans e2).trans e3)
          obtain ⟨iy, ay, hiy, hay⟩ := hT3.at (hlfn y (List.mem_of_getElem? hy))
          obtain ⟨ms, hm1, hm2, hm3⟩ := hT3.row iy y ay hiy hay
          walk_at "rd"
          refine i_tabL hT3 hn hiy hay ?_
          refine i_inLN (SqL.of hm1) ?_
          rw [wayB_dec (hm3 z)]
          walk_at "rd"
          refine iteB (fun hb => ?_) (fun hb => ?_)
          · walk_at "rd"
            exact hR2 hb _ _ (.refl _) is_str
          · exact hR2' hb _ (.refl _)
        · have hy3 := IsL.str_eq hL3
          subst hy3
          walk_at "rd"
          refine i_newL (by decide) fun t4 H4 ht4 e4 h4 => ?_
          refine i_eqD (dx := .list (((leftF ns row).filter fun y => wayB ps y z).map PyData.str)) (dy := .list []) (Is.of_lst (SqL.of (e4 _ _ h3)) (is_strs _)) (Is.of_lst (SqL.of h4) .nil) (fine_lst fun y hy => hok1 y (hlfn y (List.mem_filter.mp hy).1)) (by rfl) ?_
          rw [eqv_nil_strs, filter_none]
          walk_at "rd"
          have e34 : Same H2 H4 := e3.trans e4
          refine iteNB (fun hb => ?_) (fun hb => ?_)
          · walk_at "rd"
            exact hR (by rw [hb]; rfl) _ _ e34 is_str
          · exact hR' (by rw [hb]; rfl) _ e34
      · have hy2 := IsL.str_eq hL2
        subst hy2
        exact k q2 H2 (e1.free hq2) (e1.trans e2) h2
noncomputable def sp__law_an_order (K : PySem.W.Frag) : Sp := fun vs H Q _ => ∃ d l v r as ns ps, vs = [.ref d, v, .ref r] ∧ Feed H d l ∧ Is K H (hfD ns ps) v ∧ Half ns ps ∧ TabL K H r ns as (Way ps) ∧ r ≠ d ∧ ∀ u row H', ExtBut d H H' → Feed H' d l → TabL K H' r ns as (Way ps) → Is K H' (nmD row) u → row ∈ ext (wayB ps) ns.length ns → Q u H'
theorem tab_feed {K : PySem.W.Frag} {H H' : Hp} {d l r : Addr} {ns : List Str} {as : List Addr} {R : Str → Str → Prop} (h : TabL K H r ns as R) (hF : Feed H d l) (hne : r ≠ d) (e : ExtBut d H H') : TabL K H' r ns as R :=
  ⟨h.len, e _ _ hne h.top, fun i z a hz ha => let ⟨ks, h1, h2⟩ := h.row i z a hz ha; ⟨ks, e _ _ (hF.lst h1) h1, h2⟩⟩
theorem ext_push {b : Str → Str → Bool} {L t : List Str} {z : Str} (hn : L.Nodup) (hz : z ∈ frF b L) (h : t ∈ ext b (lessF L z).length (lessF L z)) : z :: t ∈ ext b L.length L := by
  have hll := lessF_len hn (mem_frF.mp hz).1
  cases hl : L.length with
  | zero => omega
  | succ n =>
    rw [show (lessF L z).length = n by omega] at h
    exact List.mem_flatMap.mpr ⟨z, hz, List.mem_map.mpr ⟨t, h, rfl⟩⟩
theorem frF_ne {ns : List Str} {ps : List (Str × Str)} (h : HalfW ns ps) {L : List Str} (hn : L.Nodup) (hne : L ≠ []) : 0 < (frF (wayB ps) L).length := by
  have hp := cnt_pos (b := wayB ps) (wayB_irr h) wayB_tr L.length L rfl hn
  rw [cnt_eq hn hne] at hp
  cases hf : frF (wayB ps) L with
  | nil => rw [hf] at hp; simp at hp
  | cons _ _ => simp
theorem ext_nil {b : Str → Str → Bool} {L : List Str} (h : L.length = 0) : [] ∈ ext b L.length L := by
  rw [h]
  exact List.mem_singleton.mpr rfl
theorem ok__law_an_order {f : Addr} {fd : FuncData} (F : Fun K "_law_an_order" "_law_an_order" s__law_an_order f fd) (T : TopF mg) (c__law_draw : Fnd P w K mg base 1 "_law_draw" ["_law_feed_here", "_law_many"] (sp__law_draw K)) (c__law_next_ones : Fnd P w K mg base 1 "_law_next_ones" ["_law_half_here", "_law_over_here", "_law_begun"] (sp__law_next_ones K)) : FnOk P w K mg base CX0 2 f fd ["_law_feed_here", "_law_half_here", "_law_over_here"] (sp__law_an_order K) := by
  refine F.ok sc__law_an_order (fun vs H Q E h => ?_) (fun cdv A outer s H vs Q E hr h => ?_)
  · obtain ⟨d, l, v, r, as, ns, ps, rfl, _⟩ := h
    rfl
  · obtain ⟨d, l, v, r, as, ns, ps, rfl, hF, hI, hH, hT, hrd, k⟩ := h
    have hu := hu_of hr
    have hq := qa_of hr
    have hfew := hH.few
    with_reducible refine ⟨_, (pss_cons (ps_set (i := 3) sc__law_an_order.nd (by with_unfolding_all rfl) (by with_unfolding_all exact Or.inl rfl) (pe_tup pa_nil))
      (pss_cons (ps_while PassesOwn.never (pt_cmpR op_lt (pe_callB (call_lenK (K := K)) (by with_unfolding_all rfl) T.b_len PyProof.Rows.Boot.«len» (pa_cons (pv 3) pa_nil)) (pe_callB (call_lenK (K := K)) (by with_unfolding_all rfl) T.b_len PyProof.Rows.Boot.«len» (pa_cons (pe_ix (ix_anyK (K := K) hu) (pv 1) pe_int (by with_unfolding_all exact fun _ _ => rfl)) pa_nil)) (nomark _))
      (pss_cons (ps_set (i := 4) sc__law_an_order.nd (by with_unfolding_all rfl) (by with_unfolding_all exact Or.inl rfl) (pe_fn c__law_next_ones (hr.mono (by decide)) (by with_unfolding_all rfl) (pa_cons (pv 1) (pa_cons (pv 2) (pa_cons (pv 3) pa_nil)))))
      (pss_one (ps_set (i := 3) sc__law_an_order.nd (by with_unfolding_all rfl) (by with_unfolding_all exact Or.inl rfl) (pe_op (op_addK (K := K)) (pv 3) (pe_tup (pa_cons (pe_ix (ix_anyK (K := K) hu) (pv 4) (pe_fn c__law_draw (hr.mono (by decide)) (by with_unfolding_all rfl) (pa_cons (pv 0) (pa_cons (pe_callB (call_lenK (K := K)) (by with_unfolding_all rfl) T.b_len PyProof.Rows.Boot.«len» (pa_cons (pv 4) pa_nil)) pa_nil))) (by with_unfolding_all exact fun _ _ => rfl)) pa_nil)))))))
      (pss_one (ps_ret (pv 3))))), ?_⟩
    walk_at "rd"
    refine i_newT (by decide) fun t1 H1 ht1 e1 h1 => ?_
    walk_at "rd"
    have hW := hH.w
    refine i_while (fun m σ H2 => ∃ u x4 row, σ = [some (.ref d), some v, some (.ref r), some u, x4] ∧ ExtBut d H H2 ∧ Feed H2 d l ∧ TabL K H2 r ns as (Way ps) ∧ Is K H2 (nmD row) u ∧ (leftF ns row).length = m ∧ row.length + m = ns.length ∧ ∀ t, t ∈ ext (wayB ps) (leftF ns row).length (leftF ns row) → row ++ t ∈ ext (wayB ps) ns.length ns) ns.length
      ⟨.ref t1, _, [], rfl, by walk_at "fr", hF.same e1, hT.same e1, is_nm (SqT.of h1), by rw [leftF_nil], by simp, fun t ht => by rw [leftF_nil] at ht; exact ht⟩ (fun m σ H2 hP => ?_)
    obtain ⟨u, x4, row, rfl, fr2, hF2, hT2, hI2, hlm, hrm, hall⟩ := hP
    have hfz2 := hF.fz fr2
    have hLn : (leftF ns row).Nodup := hW.nd.filter _
    walk_at "rd"
    refine i_lenN hI2 ?_
    walk_at "rd"
    refine i_ixH0 (hI.hf_fz hfz2) fun nv hN => ?_
    walk_at "rd"
    refine i_lenN hN ?_
    walk_at "rd"
    refine iteD (fun hc => ?_) (fun hc => ?_)
    · have hne : leftF ns row ≠ [] := fun e => by rw [e] at hlm; simp at hlm; omega
      have hpos := frF_ne hW hLn hne
      refine i_turn ?_
      walk_at "rd"
      refine ⟨v, u, r, as, ns, ps, row, rfl, hI.hf_fz hfz2, hT2, hI2, hW.nd, hfew, hH.ok4, fun l3 H3 hl3 e3 h3 => ?_⟩
      have hF3 := hF2.same e3
      have hfl : (frF (wayB ps) (leftF ns row)).length ≤ (leftF ns row).length := List.length_filter_le _ _
      walk_at "rd"
      refine ⟨d, l, _, rfl, hF3, by rw [List.length_map]; omega, by rw [List.length_map]; omega, fun y H4 hy0 hy1 e4 hF4 => ?_⟩
      rw [List.length_map] at hy1
      have h4 : H4 l3 = some (.lst ((frF (wayB ps) (leftF ns row)).map V.str)) := e4 _ _ (hF3.lst h3) h3
      obtain ⟨z, hz1, hz2, _⟩ := str_at? (ls := frF (wayB ps) (leftF ns row)) hy0 (by omega)
      have hzf := List.mem_of_getElem? hz1
      have hzl := lessF_len hLn (mem_frF.mp hzf).1
      walk_at "rd"
      refine i_ixLQ (SqL.of h4) hz2 ?_
      walk_at "rd"
      refine i_newT (line_of (by simp)) fun t5 H5 ht5 e5 h5 => ?_
      have fz25 : Fz H2 H5 := (e3.fz.trans (hF3.fz e4)).trans e5.fz
      obtain ⟨ua, rfl, hSu⟩ := (hI2.nm_fz fz25).nm
      refine i_addT hSu (SqT.of h5) (line_of (by rw [List.length_map]; simp; omega)) fun p6 H6 e6 h6 => ?_
      walk_at "rd"
      refine ⟨m - 1, by omega, .ref p6, _, row ++ [z], rfl, by walk_at "fr", (hF4.same e5).same e6, ?_, is_nm (by rw [List.map_append]; exact h6), by rw [leftF_snoc]; omega, by rw [List.length_append, List.length_singleton]; omega, fun t ht => ?_⟩
      · have hT3 := hT2.same e3
        exact (tab_feed hT3 hF3 hrd e4).same (e5.trans e6)
      · rw [leftF_snoc] at ht
        rw [List.append_assoc]
        exact hall _ (ext_push hLn hzf ht)
    · walk_at "rd"
      have hm0 : (leftF ns row).length = 0 := by omega
      have := hall [] (ext_nil hm0)
      rw [List.append_nil] at this
      exact k u row H2 fr2 hF2 hT2 hI2 this
inductive Tg where
  | row (xs : List V)
  | odd
noncomputable def NoTup (K : PySem.W.Frag) (H : Hp) (v : V) : Prop := ∃ t, TyOf K H v t ∧ PySem.W.kitOne K t (.type "tuple") = some false
noncomputable def ItT (K : PySem.W.Frag) (H : Hp) (x : V) : Prop := ItM K H x ∧ ((∃ z, x = .str z ∧ PyData.strOk z = true) ∨ (∃ t, TyOf K H x t ∧ PySem.W.kitOne K t (.type "str") = some false) ∨ ∃ a ys, x = .ref a ∧ SqT K H a ys)
noncomputable def ThM (K : PySem.W.Frag) (H : Hp) (v : V) : Tg → Prop
  | .row xs => ∃ a, v = .ref a ∧ SqT K H a xs ∧ xs.length ≤ 30 ∧ ∀ x ∈ xs, ItT K H x
  | .odd => NoTup K H v
theorem tyOf_mono {K : PySem.W.Frag} {H H' : Hp} {v : V} {t : Value} (h : TyOf K H v t) (e : Same H H') : TyOf K H' v t := by
  cases h with
  | non => exact .non
  | bl x => exact .bl x
  | int i => exact .int i
  | str x => exact .str x
  | flt x => exact .flt x
  | lst e1 => exact .lst (e _ _ e1)
  | frz e1 => exact .frz (e _ _ e1)
  | tup e1 => exact .tup (e _ _ e1)
  | dK e1 => exact .dK (e _ _ e1)
  | dT e1 => exact .dT (e _ _ e1)
  | ins e1 cl ha hn htk hm => exact .ins (e _ _ e1) cl ha hn htk hm
theorem ItT.same {K : PySem.W.Frag} {H H' : Hp} {x : V} (h : ItT K H x) (e : Same H H') : ItT K H' x := ⟨h.1.same e, by
  rcases h.2 with h | ⟨t, h1, h2⟩ | ⟨a, ys, h1, h2⟩
  · exact .inl h
  · exact .inr (.inl ⟨t, tyOf_mono h1 e, h2⟩)
  · exact .inr (.inr ⟨a, ys, h1, e.seqT h2⟩)⟩
theorem ThM.same {K : PySem.W.Frag} {H H' : Hp} {v : V} {g : Tg} (h : ThM K H v g) (e : Same H H') : ThM K H' v g := by
  cases g with
  | row xs => obtain ⟨a, e1, e2, e3, e4⟩ := h; exact ⟨a, e1, e.seqT e2, e3, fun x hx => (e4 x hx).same e⟩
  | odd => obtain ⟨t, h1, h2⟩ := h; exact ⟨t, tyOf_mono h1 e, h2⟩
noncomputable def isT : V → Bool
  | .str _ => true
  | _ => false
theorem isStr_of {K : PySem.W.Frag} {H : Hp} {v : V} {Q : VK} (g : ItT K H v) (k : Q (.bl (isT v)) H) : rIsinst K [v, .ty "str"] H Q := by
  rcases g.2 with ⟨z, rfl, hz⟩ | ⟨t, h1, h2⟩ | ⟨a, ys, rfl, hS⟩
  · exact i_isi (.str z) (b := true) (by rfl) k
  · have e : isT v = false := by
      cases h1 with
      | str x =>
        rw [show PySem.W.kitOne K (.type "str") (.type "str") = some true by rfl] at h2
        cases h2
      | _ => rfl
    rw [e] at k
    exact i_isi h1 h2 k
  · exact i_isiT hS (b := false) (by rfl) k
theorem strs_of {xs : List V} (h : ∀ x ∈ xs, isT x = true) : ∃ row : List Str, xs = row.map V.str := by
  induction xs with
  | nil => exact ⟨[], rfl⟩
  | cons x r ih =>
    obtain ⟨row, rfl⟩ := ih fun y hy => h y (List.mem_cons_of_mem _ hy)
    have := h x (by simp)
    cases x with
    | str z => exact ⟨z :: row, rfl⟩
    | _ => cases this
noncomputable def OrdG (ns : List Str) (ps : List (Str × Str)) : Tg → Prop
  | .row xs => ∃ r : List Str, xs = r.map V.str ∧ r ∈ ext (wayB ps) ns.length ns
  | .odd => False
theorem i_lenSq {K : PySem.W.Frag} {H : Hp} {Q : VK} {a : Addr} {xs : List V} (h : SqT K H a xs) (k : Q (.int xs.length) H) : rLenA K [.ref a] H Q := .inl ⟨.ref a, _, rfl, .inr ⟨xs, h, rfl⟩, k⟩
theorem perm_sub {α : Type} [DecidableEq α] : ∀ {as bs : List α}, as.Nodup → (∀ z ∈ as, z ∈ bs) → bs.length ≤ as.length → as.Perm bs
  | [], bs, _, _, hl => by rw [List.length_eq_zero_iff.mp (Nat.le_zero.mp hl)]
  | a :: as, bs, hn, hs, hl => by
    have ha : a ∈ bs := hs a (by simp)
    obtain ⟨h1, h2⟩ := List.nodup_cons.mp hn
    have ih := perm_sub (as := as) (bs := bs.erase a) h2 (fun z hz => (List.mem_erase_of_ne (fun e : z = a => h1 (by rw [← e]; exact hz))).mpr (hs z (by simp [hz]))) (by rw [List.length_erase_of_mem ha]; simp at hl; omega)
    exact (List.Perm.cons a ih).trans (List.perm_cons_erase ha).symm
theorem str_inj_list : ∀ {as bs : List Str}, as.map V.str = bs.map V.str → as = bs
  | [], [], _ => rfl
  | [], _ :: _, h => by cases h
  | _ :: _, [], h => by cases h
  | a :: as, b :: bs, h => by
    rw [List.map_cons, List.map_cons] at h
    injection h with h1 h2
    rw [V.str.inj h1, str_inj_list h2]
noncomputable def sp_is_order (K : PySem.W.Frag) : Sp := fun vs H Q _ => ∃ v u ns ps g, vs = [v, u] ∧ Is K H (hfD ns ps) v ∧ Half ns ps ∧ ThM K H u g ∧ ∀ b H', Same H H' → (b = true ↔ OrdG ns ps g) → Q (.bl b) H'
theorem ok_is_order {f : Addr} {fd : FuncData} (F : Fun K "is_order" "is_order" s_is_order f fd) (T : TopF mg) : FnOk P w K mg base CX0 1 f fd ["half", "thing"] (sp_is_order K) := by
  refine F.ok sc_is_order (fun vs H Q E h => ?_) (fun cdv A outer s H vs Q E hr h => ?_)
  · obtain ⟨v, u, ns, ps, g, rfl, _⟩ := h
    rfl
  · obtain ⟨v, u, ns, ps, g, rfl, hI, hH, hT, k⟩ := h
    have hu := hu_of hr
    have hq := qa_of hr
    have hW := hH.w
    have hle := hH.le
    have hfew := hH.few
    with_reducible refine ⟨_, (pss_cons (ps_if (PW.pt (pw_or (pt_not (pt_val (pe_callB (call_isinstK (K := K)) (by with_unfolding_all rfl) T.b_isinstance PyProof.Rows.Boot.«isinstance» (pa_cons (pv 1) (pa_cons (pe_bltn (v := .ty "tuple") (by with_unfolding_all rfl) T.b_tuple PyProof.Rows.Boot.«tuple» (by with_unfolding_all rfl)) pa_nil))))) (pw_or1 (pt_cmpR (op_neK (K := K) hq) (pe_callB (call_lenK (K := K)) (by with_unfolding_all rfl) T.b_len PyProof.Rows.Boot.«len» (pa_cons (pv 1) pa_nil)) (pe_callB (call_lenK (K := K)) (by with_unfolding_all rfl) T.b_len PyProof.Rows.Boot.«len» (pa_cons (pe_ix (ix_anyK (K := K) hu) (pv 0) pe_int (by with_unfolding_all exact fun _ _ => rfl)) pa_nil)) (nomark _))))) (pss_one (ps_ret pe_bl)) pss_nil)
      (pss_cons (ps_if (pt_not (pt_val (pe_callB (call_allK (K := K) (by with_unfolding_all rfl)) (by with_unfolding_all rfl) T.b_all PyProof.Rows.Boot.«all» (pa_cons (pe_comp ["name"] ["thing"] [1] (by with_unfolding_all rfl) (by with_unfolding_all rfl) (by with_unfolding_all rfl) (pi_anyK (K := K) hu (pe_ix (ix_anyK (K := K) hu) (pv 0) pe_int (by with_unfolding_all exact fun _ _ => rfl))) (fun _ _ _ _ => (pg_name (i := 0) (by with_unfolding_all (show (["name", "thing"] : List Str).Nodup; decide +kernel)) (by with_unfolding_all rfl) (by with_unfolding_all exact Or.inl rfl))) (gk_name (by decide)) (fun _ _ _ _ => pif_nil) (fun _ _ _ _ => (pe_cmpR (op_inM (K := K) hq) (pv 0) (pv 1) (by with_unfolding_all rfl)))) pa_nil)))) (pss_one (ps_ret pe_bl)) pss_nil)
      (pss_one (ps_ret (pe_callB (call_allK (K := K) (by with_unfolding_all rfl)) (by with_unfolding_all rfl) T.b_all PyProof.Rows.Boot.«all» (pa_cons (pe_comp ["saying"] ["thing"] [1] (by with_unfolding_all rfl) (by with_unfolding_all rfl) (by with_unfolding_all rfl) (pi_anyK (K := K) hu (pe_ix (ix_anyK (K := K) hu) (pv 0) pe_int (by with_unfolding_all exact fun _ _ => rfl))) (fun _ _ _ _ => (pg_name (i := 0) (by with_unfolding_all (show (["saying", "thing"] : List Str).Nodup; decide +kernel)) (by with_unfolding_all rfl) (by with_unfolding_all exact Or.inl rfl))) (gk_name (by decide)) (fun _ _ _ _ => pif_nil) (fun _ _ _ _ => (pe_cmpR op_lt (pe_bmT (K := K) PySem.F.slot_tuple_index PySem.F.type_tuple_index (mt_indexTK (K := K)) (pv 1) (pa_cons (pe_ix (ix_anyK (K := K) hu) (pv 0) pe_int (by with_unfolding_all exact fun _ _ => rfl)) pa_nil)) (pe_bmT (K := K) PySem.F.slot_tuple_index PySem.F.type_tuple_index (mt_indexTK (K := K)) (pv 1) (pa_cons (pe_ix (ix_anyK (K := K) hu) (pv 0) pe_int (by with_unfolding_all exact fun _ _ => rfl)) pa_nil)) (nomark _)))) pa_nil)))))), ?_⟩
    walk_at "rd"
    cases g with
    | odd =>
      obtain ⟨t, h1, h2⟩ := hT
      refine i_isi h1 h2 ?_
      walk_at "rd"
      exact k false H (.refl _) ⟨fun h => Bool.noConfusion h, fun h => h.elim⟩
    | row xs =>
      obtain ⟨a, rfl, hS, h30, hG⟩ := hT
      have hlen : ∀ r : List Str, r ∈ ext (wayB ps) ns.length ns → r.Perm ns := fun r hr => ((mem_ext _ _ _ _ hW.nd rfl).mp hr).1
      refine i_isiT hS (b := true) (by first | rfl | kernel_rfl) ?_
      walk_at "rd"
      refine i_lenSq hS ?_
      walk_at "rd"
      refine i_ixH0 hI fun nv hN => ?_
      walk_at "rd"
      refine i_lenN hN ?_
      walk_at "rd"
      refine iteND (fun hc => ?_) (fun hc => ?_)
      · walk_at "rd"
        refine k false H (.refl _) ⟨fun h => (by cases h), ?_⟩
        rintro ⟨r, rfl, hr⟩
        exact absurd (by rw [List.length_map, (hlen r hr).length_eq]) hc
      have hxl : xs.length = ns.length := by have := V.int.inj hc; omega
      walk_at "rd"
      refine i_ixH0 hI fun nv1 hN1 => ?_
      obtain ⟨n1, rfl, hS1⟩ := hN1.nm
      refine i_itT hS1 ?_
      refine comp_bls (K := K) (walk_tup (xs := ns.map V.str)) ns (by simp) (fun z => decide (V.str z ∈ xs)) (by rw [List.length_map]; omega) (fun H' e => e.seqT hS1) (fun m z xv H1 R hz' hxv e1 hR1 => ?_) (fun q H1 hq1 e1 h1 => ?_)
      · rw [List.getElem?_map, hz'] at hxv
        cases hxv
        walk_at "rd"
        refine i_inM (e1.seqT hS) (fun e he => ((hG e he).same e1).1) ?_
        exact hR1 H1 (.refl _)
      walk_at "rd"
      refine i_all h1 ?_
      cases hb : (ns.map fun z => decide (V.str z ∈ xs)).all id with
      | false =>
        walk_at "rd"
        refine k false H1 e1 ⟨fun h => (by cases h), ?_⟩
        rintro ⟨r, rfl, hr⟩
        have : (ns.map fun z => decide (V.str z ∈ r.map V.str)).all id = true := by
          rw [List.all_map, List.all_eq_true]
          intro z hz
          exact decide_eq_true (List.mem_map.mpr ⟨z, (hlen r hr).mem_iff.mpr hz, rfl⟩)
        rw [this] at hb
        cases hb
      | true =>
        have hsub : ∀ x ∈ ns.map V.str, x ∈ xs := fun x hx => by
          obtain ⟨z, hz, rfl⟩ := List.mem_map.mp hx
          rw [List.all_map, List.all_eq_true] at hb
          exact of_decide_eq_true (hb z hz)
        have hpm : xs.Perm (ns.map V.str) := (perm_sub (nodup_map_on hW.nd fun x _ y _ e => V.str.inj e) hsub (by rw [List.length_map]; omega)).symm
        obtain ⟨r, rfl, hp⟩ := perm_strs9 hpm
        walk_at "rd"
        refine i_ixH1 (hI.hf_fz e1.fz) fun sv hP => ?_
        obtain ⟨sa, sx, rfl, hSs, hLs⟩ := Is.tup hP
        have hsl : ps.length = sx.length := by rw [← IsL.length hLs, List.length_map]
        refine i_itT hSs ?_
        refine comp_bls (K := K) (walk_tup (xs := sx)) ps hsl (fun p => decide (r.idxOf p.1 < r.idxOf p.2)) (by omega) (fun H' e => e.seqT hSs) (fun m p xv H2 R hp' hxv e2 hR2 => ?_) (fun q2 H2 hq2 e2 h2 => ?_)
        · obtain ⟨dr, hdr, hIw⟩ := IsL.get (IsL.mono e2 _ _ hLs) hxv
          rw [List.getElem?_map, hp'] at hdr
          cases hdr
          have hpm := hW.mem p (List.mem_of_getElem? hp')
          obtain ⟨f1, f2, f3⟩ := idx_at (hp.mem_iff.mpr hpm.1)
          obtain ⟨g1, g2, g3⟩ := idx_at (hp.mem_iff.mpr hpm.2)
          have hSw2 := (e1.trans e2).seqT hS
          walk_at "rd"
          refine i_tyT hSw2 ?_
          walk_at "rd"
          refine i_ixP0 hIw ?_
          walk_at "rd"
          refine i_indexT hSw2 f1 f2 ?_
          walk_at "rd"
          refine i_tyT hSw2 ?_
          walk_at "rd"
          refine i_ixP1 hIw ?_
          walk_at "rd"
          refine i_indexT hSw2 g1 g2 ?_
          walk_at "rd"
          have e : decide ((r.idxOf p.1 : Int) < (r.idxOf p.2 : Int)) = decide (r.idxOf p.1 < r.idxOf p.2) := decide_eq_decide.mpr (by omega)
          rw [e]
          exact hR2 H2 (.refl _)
        · walk_at "rd"
          refine i_all h2 ?_
          refine k _ H2 (e1.trans e2) ?_
          rw [List.all_map, List.all_eq_true]
          have ho := ok_iff hW.nd hW.mem hp
          constructor
          · intro h
            exact ⟨r, rfl, (mem_ext _ _ _ _ hW.nd rfl).mpr ⟨hp, ho.mpr fun p hpp => of_decide_eq_true (h p hpp)⟩⟩
          · rintro ⟨r', e', hr'⟩ p hpp
            have := str_inj_list e'
            subst this
            exact decide_eq_true (ho.mp ((mem_ext _ _ _ _ hW.nd rfl).mp hr').2 p hpp)
noncomputable def vio (ps : List (Str × Str)) (row : List Str) (k : Nat) : Bool := (row.take k).any fun y => wayB ps (row.getD k "") y
theorem vio_ok {ns : List Str} {ps : List (Str × Str)} {row : List Str} (hn : ns.Nodup) (hirr : ∀ x, ¬ Way ps x x) (hp : row.Perm ns) : ((List.range row.length).filter (vio ps row)).isEmpty = true ↔ row ∈ ext (wayB ps) ns.length ns := by
  rw [List.isEmpty_iff, List.filter_eq_nil_iff, mem_ext _ _ _ _ hn rfl]
  have hrn : row.Nodup := hp.nodup_iff.mpr hn
  constructor
  · intro h
    refine ⟨hp, fun u _ => Bool.eq_false_iff.mpr fun g => hirr u (wayB_iff.mp g), List.pairwise_iff_getElem.mpr fun i j hi hj hij => ?_⟩
    have := h j (List.mem_range.mpr hj)
    unfold vio at this
    rw [List.any_eq_true] at this
    cases hb : wayB ps row[j] row[i] with
    | false => rfl
    | true => exact absurd ⟨row[i], List.mem_take_iff_getElem.mpr ⟨i, by omega, rfl⟩, by rw [List.getD_eq_getElem?_getD, List.getElem?_eq_getElem hj, Option.getD_some]; exact hb⟩ this
  · rintro ⟨_, _, h⟩ k hk hv
    unfold vio at hv
    rw [List.any_eq_true] at hv
    obtain ⟨y, hy, hw⟩ := hv
    have hk := List.mem_range.mp hk
    obtain ⟨i, hi, rfl⟩ := List.mem_take_iff_getElem.mp hy
    rw [List.getD_eq_getElem?_getD, List.getElem?_eq_getElem hk, Option.getD_some] at hw
    have := List.pairwise_iff_getElem.mp h i k (by omega) hk (by omega)
    rw [hw] at this
    cases this
noncomputable def sp__law_is_order (K : PySem.W.Frag) : Sp := fun vs H Q _ => ∃ v u r as ns ps g, vs = [v, .ref r, u] ∧ Is K H (hfD ns ps) v ∧ Half ns ps ∧ TabL K H r ns as (Way ps) ∧ ThM K H u g ∧ ∀ b H', Same H H' → (b = true ↔ OrdG ns ps g) → Q (.bl b) H'
theorem ok__law_is_order {f : Addr} {fd : FuncData} (F : Fun K "_law_is_order" "_law_is_order" s__law_is_order f fd) (T : TopF mg) : FnOk P w K mg base CX0 1 f fd ["_law_half_here", "_law_over_here", "_law_thing"] (sp__law_is_order K) := by
  refine F.ok sc__law_is_order (fun vs H Q E h => ?_) (fun cdv A outer s H vs Q E hr h => ?_)
  · obtain ⟨v, u, r, as, ns, ps, g, rfl, _⟩ := h
    rfl
  · obtain ⟨v, u, r, as, ns, ps, g, rfl, hI, hH, hT, hTh, k⟩ := h
    have hu := hu_of hr
    have hq := qa_of hr
    have hW := hH.w
    have hfew := hH.few
    with_reducible refine ⟨_, (pss_cons (ps_if (PW.pt (pw_or (pt_not (pt_val (pe_callB (call_isinstK (K := K)) (by with_unfolding_all rfl) T.b_isinstance PyProof.Rows.Boot.«isinstance» (pa_cons (pv 2) (pa_cons (pe_bltn (v := .ty "tuple") (by with_unfolding_all rfl) T.b_tuple PyProof.Rows.Boot.«tuple» (by with_unfolding_all rfl)) pa_nil))))) (pw_or1 (pt_cmpR (op_neL0 (K := K) hq) (pe_comp ["_law_one"] [] [] (by with_unfolding_all rfl) (by with_unfolding_all rfl) (by with_unfolding_all rfl) (pi_anyK (K := K) hu (pv 2)) (fun _ _ _ _ => (pg_name (i := 0) (by with_unfolding_all (show (["_law_one"] : List Str).Nodup; decide +kernel)) (by with_unfolding_all rfl) (by with_unfolding_all exact Or.inl rfl))) (gk_name (by decide)) (fun _ _ _ _ => (pif_one (pt_not (pt_val (pe_callB (call_isinstK (K := K)) (by with_unfolding_all rfl) T.b_isinstance PyProof.Rows.Boot.«isinstance» (pa_cons (pv 0) (pa_cons (pe_bltn (v := .ty "str") (by with_unfolding_all rfl) T.b_str PyProof.Rows.Boot.«str» (by with_unfolding_all rfl)) pa_nil))))))) (fun _ _ _ _ => (pv 0))) (pe_lst pa_nil) (nomark _))))) (pss_one (ps_ret pe_bl)) pss_nil)
      (pss_cons (ps_if (pt_cmpR (op_neK (K := K) hq) (pe_callB (call_sortedK (K := K)) (by with_unfolding_all rfl) T.b_sorted PyProof.Rows.Boot.«sorted» (pa_cons (pv 2) pa_nil)) (pe_callB (call_sortedK (K := K)) (by with_unfolding_all rfl) T.b_sorted PyProof.Rows.Boot.«sorted» (pa_cons (pe_ix (ix_anyK (K := K) hu) (pv 0) pe_int (by with_unfolding_all exact fun _ _ => rfl)) pa_nil)) (nomark _)) (pss_one (ps_ret pe_bl)) pss_nil)
      (pss_one (ps_ret (pe_cmpR (op_eqL0 (K := K) hq) (pe_comp ["_law_k"] ["_law_thing", "_law_over_here"] [2, 1] (by with_unfolding_all rfl) (by with_unfolding_all rfl) (by with_unfolding_all rfl) (pi_range1 (by with_unfolding_all rfl) T.b_range (pa_cons (pe_callB (call_lenK (K := K)) (by with_unfolding_all rfl) T.b_len PyProof.Rows.Boot.«len» (pa_cons (pv 2) pa_nil)) pa_nil)) (fun _ _ _ _ => (pg_name (i := 0) (by with_unfolding_all (show (["_law_k", "_law_thing", "_law_over_here"] : List Str).Nodup; decide +kernel)) (by with_unfolding_all rfl) (by with_unfolding_all exact Or.inr rfl))) (gk_name (by decide)) (fun _ _ _ _ => (pif_one (pt_cmpR (op_neL0 (K := K) hq) (pe_comp ["_law_one"] ["_law_over_here", "_law_thing", "_law_k"] [2, 1, 0] (by with_unfolding_all rfl) (by with_unfolding_all rfl) (by with_unfolding_all rfl) (pi_anyK (K := K) hu (pe_slice (sl_K (K := K)) (pv 1) po_none (po_some (pv 0)))) (fun _ _ _ _ => (pg_name (i := 0) (by with_unfolding_all (show (["_law_one", "_law_over_here", "_law_thing", "_law_k"] : List Str).Nodup; decide +kernel)) (by with_unfolding_all rfl) (by with_unfolding_all exact Or.inl rfl))) (gk_name (by decide)) (fun _ _ _ _ => (pif_one (pt_cmpR (op_inK (K := K) hq) (pv 0) (pe_ix (ix_anyK (K := K) hu) (pv 1) (pe_ix (ix_anyK (K := K) hu) (pv 2) (pv 3) (by with_unfolding_all exact fun _ _ => rfl)) (by with_unfolding_all exact fun _ _ => rfl)) (by with_unfolding_all rfl)))) (fun _ _ _ _ => (pv 0))) (pe_lst pa_nil) (nomark _)))) (fun _ _ _ _ => (pv 0))) (pe_lst pa_nil) (nomark _)))))), ?_⟩
    walk_at "rd"
    cases g with
    | odd =>
      obtain ⟨t, h1, h2⟩ := hTh
      refine i_isi h1 h2 ?_
      walk_at "rd"
      exact k false H (.refl _) ⟨fun h => Bool.noConfusion h, fun h => h.elim⟩
    | row xs =>
      obtain ⟨a, rfl, hS, h30, hG⟩ := hTh
      refine i_isiT hS (b := true) (by first | rfl | kernel_rfl) ?_
      walk_at "rd"
      refine i_itT hS ?_
      refine comp_pure (walk_tup (xs := xs)) (fun x => !isT x) id (by omega) (fun H' e => e.seqT hS) (fun i x H1 R R' hx e1 hR hR' => ?_) (fun p1 H1 hp1 e1 h1 => ?_)
      · walk_at "rd"
        refine isStr_of ((hG x (List.mem_of_getElem? hx)).same e1) ?_
        walk_at "rd"
        cases hb : isT x with
        | true =>
          walk_at "rd"
          exact hR' (by rw [hb]; rfl)
        | false =>
          walk_at "rd"
          exact hR (by rw [hb]; rfl)
      rw [List.map_id] at h1
      walk_at "rd"
      refine i_newL (line_of (by simp)) fun q2 H2 hq2 e2 h2 => ?_
      refine i_neL0 (SqL.of (e2 _ _ h1)) (SqL.of h2) ?_
      have e02 := e1.trans e2
      cases hc1 : xs.filter fun x => !isT x with
      | cons z rr =>
        have hz : z ∈ xs.filter fun x => !isT x := by rw [hc1]; simp
        obtain ⟨hz1, hz2⟩ := List.mem_filter.mp hz
        rw [List.isEmpty_cons]
        walk_at "rd"
        refine k false H2 e02 ⟨fun h => Bool.noConfusion h, ?_⟩
        rintro ⟨row, rfl, _⟩
        obtain ⟨y, _, rfl⟩ := List.mem_map.mp hz1
        cases hz2
      | nil =>
        obtain ⟨row, rfl⟩ : ∃ row : List Str, xs = row.map V.str := strs_of fun x hx => by
          cases hb : isT x with
          | true => rfl
          | false =>
            have : x ∈ xs.filter fun x => !isT x := List.mem_filter.mpr ⟨hx, by rw [hb]; rfl⟩
            rw [hc1] at this
            cases this
        have hl : row.length ≤ 30 := by simpa using h30
        have hok : ∀ z ∈ row, PyData.strOk z = true := fun z hz => by
          rcases (hG _ (List.mem_map.mpr ⟨z, hz, rfl⟩)).2 with ⟨y, e, hy⟩ | ⟨t, h1, h2⟩ | ⟨a, ys, e, _⟩
          · cases e; exact hy
          · cases h1
            rw [show PySem.W.kitOne K (.type "str") (.type "str") = some true by rfl] at h2
            cases h2
          · cases e
        rw [List.isEmpty_nil]
        walk_at "rd"
        refine i_sorted (.inr (e02.seqT hS)) (by omega) fun p3 m3 H3 hp3 e3 h3 hm3 hs3 => ?_
        walk_at "rd"
        refine i_ixH0 (hI.hf_fz (e02.trans e3).fz) fun nv hN => ?_
        obtain ⟨na, rfl, hSn⟩ := hN.nm
        walk_at "rd"
        refine i_sorted (.inr hSn) (by omega) fun p4 m4 H4 hp4 e4 h4 hm4 hs4 => ?_
        have e04 := (e02.trans e3).trans e4
        have hsh3 : SeqAt.shaped (.list (m3.map PyData.str)) = true := fine_lst fun z hz => hok z (hm3.mem_iff.mp hz)
        have hsh4 : SeqAt.shaped (.list (m4.map PyData.str)) = true := fine_lst fun z hz => hH.ok4 z (hm4.mem_iff.mp hz)
        refine i_neD (Is.of_lst (SqL.of (e4 _ _ h3)) (is_strs m3)) (Is.of_lst (SqL.of h4) (is_strs m4)) hsh3 hsh4 ?_
        rw [eqv_lsts]
        walk_at "rd"
        refine iteND (fun hc => ?_) (fun hc => ?_)
        · walk_at "rd"
          refine k false H4 e04 ⟨fun h => Bool.noConfusion h, ?_⟩
          rintro ⟨row', e', hr'⟩
          have := str_inj_list e'
          subst this
          have hp := ((mem_ext _ _ _ _ hW.nd rfl).mp hr').1
          exact absurd (sorted_one ((hm3.trans hp).trans hm4.symm) hs3 hs4) hc
        subst hc
        have hp : row.Perm ns := hm3.symm.trans hm4
        have hS4 := e04.seqT hS
        walk_at "rd"
        refine i_lenN (is_nm hS4) ?_
        walk_at "rd"
        refine i_rngv (by omega) ?_
        refine comp_dat (K := K) (walk_range (lo := 0) (n := ((row.length : Nat) : Int).toNat)) (List.range row.length) (by simp) (vio ps row) (fun k => .int (k : Int)) (fun _ => rfl) (by simp; omega) (fun _ _ => trivial) (fun i i' x H5 R R' hi' hx e5 hR hR' => ?_) (fun q ys H5 hq5 e5 h5 hL5 => ?_)
        · obtain ⟨hii, rfl⟩ : i < row.length ∧ i' = i := by
            have h1 := (List.getElem?_eq_some_iff.mp hi')
            obtain ⟨h2, h3⟩ := h1
            simp at h2 h3
            exact ⟨h2, h3.symm⟩
          obtain ⟨rfl, hi2⟩ := rng_get hx
          have hS5 := e5.seqT hS4
          obtain ⟨z, hz1, hz2, _⟩ := str_at? (ls := row) (i := 0 + (i' : Int)) (by omega) (by omega)
          have hzi : row[i']? = some z := by
            rw [show (0 + (i' : Int)).toNat = i' by omega] at hz1
            exact hz1
          have hzn : z ∈ ns := hp.mem_iff.mp (List.mem_of_getElem? hzi)
          have hgd : row.getD i' "" = z := by rw [List.getD_eq_getElem?_getD, hzi]; rfl
          walk_at "rd"
          refine i_slT hS5 fun t6 H6 e6 h6 => ?_
          rw [cut_upto (by omega), ← List.map_take, show (0 + (i' : Int)).toNat = i' by omega] at h6
          refine comp_nm (is_nm h6) (fun y => wayB ps z y) PyData.str (fun _ => by simp only [frz]) (by rw [List.length_take]; omega) (fun j y H7 R1 R1' hy e7 hR1 hR1' => ?_) (fun q7 y7 H7 hq7 e7 h7 hL7 => ?_)
          · have hT7 := hT.same (((e04.trans e5).trans e6).trans e7)
            obtain ⟨i0, a0, hi0, ha0⟩ := hT7.at hzn
            obtain ⟨ks, k1, k2, k3⟩ := hT7.row i0 z a0 hi0 ha0
            walk_at "rd"
            refine i_ixQ ((e6.trans e7).seqT hS5) hz2 ?_
            refine i_tabL hT7 hW.nd hi0 ha0 ?_
            walk_at "rd"
            refine i_inLN (SqL.of k1) ?_
            rw [wayB_dec (k3 y)]
            walk_at "rd"
            refine ite2 (fun hb => ?_) (fun hb => ?_)
            · walk_at "rd"
              exact hR1 hb _ _ (.refl _) is_str
            · walk_at "rd"
              exact hR1' (Bool.eq_false_iff.mpr hb) _ (.refl _)
          · obtain rfl := IsL.str_eq hL7
            walk_at "rd"
            refine i_newL (line_of (by simp)) fun q8 H8 hq8 e8 h8 => ?_
            refine i_neL0 (SqL.of (e8 _ _ h7)) (SqL.of h8) ?_
            have ev : (!(((row.take i').filter fun y => wayB ps z y).map V.str).isEmpty) = vio ps row i' := by
              unfold vio
              rw [hgd, List.isEmpty_map, Bool.eq_iff_iff, Bool.not_eq_true', List.isEmpty_eq_false_iff, List.any_eq_true]
              constructor
              · intro h
                obtain ⟨y, hy⟩ := List.exists_mem_of_ne_nil _ h
                exact ⟨y, List.mem_filter.mp hy⟩
              · rintro ⟨y, hy⟩
                exact List.ne_nil_of_mem (List.mem_filter.mpr hy)
            rw [ev]
            have e58 := (e6.trans e7).trans e8
            walk_at "rd"
            refine ite2 (fun hb => ?_) (fun hb => ?_)
            · walk_at "rd"
              exact hR hb _ _ e58 (by rw [Int.zero_add]; exact is_int)
            · walk_at "rd"
              exact hR' (Bool.eq_false_iff.mpr hb) _ e58
        · have hys : ys = ((List.range row.length).filter (vio ps row)).map fun (k : Nat) => V.int (k : Int) := by
            have h := IsL.int_eq (ns := ((List.range row.length).filter (vio ps row)).map fun (k : Nat) => (k : Int)) (by rw [List.map_map]; exact hL5)
            rw [h, List.map_map]
            rfl
          walk_at "rd"
          refine i_newL (line_of (by simp)) fun q8 H8 hq8 e8 h8 => ?_
          refine i_eqL0 (SqL.of (e8 _ _ h5)) (SqL.of h8) ?_
          refine k _ H8 ((e04.trans e5).trans e8) ?_
          rw [hys, List.isEmpty_map, vio_ok hW.nd (fun _ => hH.irrefl) hp]
          exact ⟨fun h => ⟨row, rfl, h⟩, fun ⟨row', e', hr'⟩ => by rw [str_inj_list e']; exact hr'⟩
noncomputable def oddS : List Str := ["a", "zzzzzzzzz", "", "A"]
noncomputable def OddM (H : Hp) (F : Addr → Prop) (o : V) : Prop := o = .non ∨ o = .int 1 ∨ o = .bl true ∨ (∃ z ∈ oddS, o = .str z) ∨ (∃ t, o = .ref t ∧ H t = some (.tup [.str "a"])) ∨ (∃ t, o = .ref t ∧ F t ∧ H t = some (.lst [.str "a"])) ∨ ∃ t, o = .ref t ∧ F t ∧ H t = some (.dK [])
theorem OddM.off {H H' : Hp} {F : Addr → Prop} {p : Addr} {o : V} (h : OddM H F o) (hp : ∀ t, o = .ref t → t ≠ p) (e : ExtBut p H H') : OddM H' F o := by
  rcases h with h | h | h | h | ⟨t, h1, h2⟩ | ⟨t, h1, h2, h3⟩ | ⟨t, h1, h2, h3⟩
  · exact .inl h
  · exact .inr (.inl h)
  · exact .inr (.inr (.inl h))
  · exact .inr (.inr (.inr (.inl h)))
  · exact .inr (.inr (.inr (.inr (.inl ⟨t, h1, e _ _ (hp t h1) h2⟩))))
  · exact .inr (.inr (.inr (.inr (.inr (.inl ⟨t, h1, h2, e _ _ (hp t h1) h3⟩)))))
  · exact .inr (.inr (.inr (.inr (.inr (.inr ⟨t, h1, h2, e _ _ (hp t h1) h3⟩)))))
theorem OddM.put {H H' : Hp} {F : Addr → Prop} {p : Addr} {o : V} (h : OddM H F o) (e : ExtBut p H H') (hf : ∀ t, F t → t ≠ p) (ht : ∀ t xs, H t = some (.tup xs) → t ≠ p) : OddM H' F o :=
  h.off (fun t ht' => by
    subst ht'
    rcases h with h | h | h | ⟨_, _, h⟩ | ⟨t, h1, h2⟩ | ⟨t, h1, h2, h3⟩ | ⟨t, h1, h2, h3⟩
    · cases h
    · cases h
    · cases h
    · cases h
    · cases h1; exact ht _ _ h2
    · cases h1; exact hf _ h2
    · cases h1; exact hf _ h2) e
theorem OddM.same {H H' : Hp} {F : Addr → Prop} {o : V} (h : OddM H F o) (e : Same H H') : OddM H' F o := by
  rcases h with h | h | h | h | ⟨t, h1, h2⟩ | ⟨t, h1, h2, h3⟩ | ⟨t, h1, h2, h3⟩
  · exact .inl h
  · exact .inr (.inl h)
  · exact .inr (.inr (.inl h))
  · exact .inr (.inr (.inr (.inl h)))
  · exact .inr (.inr (.inr (.inr (.inl ⟨t, h1, e _ _ h2⟩))))
  · exact .inr (.inr (.inr (.inr (.inr (.inl ⟨t, h1, h2, e _ _ h3⟩)))))
  · exact .inr (.inr (.inr (.inr (.inr (.inr ⟨t, h1, h2, e _ _ h3⟩)))))
noncomputable def NmL (rs : List Str) : Prop := rs.length ≤ 12 ∧ ∀ z ∈ rs, isNm z = true
noncomputable def RowW (odd : V) (xs : List V) : Prop := (∃ rs, xs = rs.map V.str ∧ NmL rs) ∨ ∃ p q, xs = p.map V.str ++ odd :: q.map V.str ∧ NmL (p ++ q)
noncomputable def RowT (H : Hp) (F : Addr → Prop) (xs : List V) : Prop := ∃ o, (RowW o xs ∧ OddM H F o) ∨ ∃ rs, xs = rs.map V.str ∧ NmL rs
noncomputable def ThingK (K : PySem.W.Frag) (H : Hp) (F : Addr → Prop) (u : V) : Prop :=
  (∃ a xs, u = .ref a ∧ SqT K H a xs ∧ RowT H F xs) ∨ (∃ a rs, u = .ref a ∧ F a ∧ H a = some (.lst (rs.map V.str)) ∧ NmL rs) ∨ OddM H F u ∨ (∃ z, u = .str z ∧ PyData.strOk z = true ∧ z.length ≤ 100) ∨
  (∃ a rs, u = .ref a ∧ F a ∧ H a = some (.dK (dsK rs)) ∧ rs.length ≤ 12 ∧ ∀ p ∈ rs, isNm p.1 = true ∧ isNm p.2 = true) ∨ ∃ a b rs, u = .ref a ∧ SqT K H a [.ref b] ∧ SqT K H b (rs.map V.str) ∧ NmL rs
theorem OddM.ext {H H' : Hp} {F : Addr → Prop} {d l : Addr} {o : V} (h : OddM H F o) (hf : ∀ t, F t → t ≠ d) (hF : Feed H d l) (e : ExtBut d H H') : OddM H' F o :=
  h.put e hf fun _ _ => hF.tup
theorem oddS_ok : ∀ z ∈ oddS, PyData.strOk z = true ∧ z.length ≤ 9 := by decide +kernel
theorem itT_str {K : PySem.W.Frag} {H : Hp} {z : Str} (h : PyData.strOk z = true) : ItT K H (.str z) := ⟨.inr (.inr (.inr (.inl ⟨z, rfl⟩))), .inl ⟨z, rfl, h⟩⟩
theorem OddM.it {K : PySem.W.Frag} {H : Hp} {F : Addr → Prop} {o : V} (h : OddM H F o) : ItT K H o := by
  rcases h with rfl | rfl | rfl | ⟨z, hz, rfl⟩ | ⟨t, rfl, h2⟩ | ⟨t, rfl, h3, h2⟩ | ⟨t, rfl, h2, h3⟩
  · exact ⟨.inl rfl, .inr (.inl ⟨_, .non, by rfl⟩)⟩
  · exact ⟨.inr (.inr (.inl ⟨1, rfl⟩)), .inr (.inl ⟨_, .int 1, by rfl⟩)⟩
  · exact ⟨.inr (.inl ⟨true, rfl⟩), .inr (.inl ⟨_, .bl true, by rfl⟩)⟩
  · exact itT_str (oddS_ok z hz).1
  · exact ⟨.inr (.inr (.inr (.inr (.inl ⟨t, _, rfl, .inr (SqT.of h2)⟩)))), .inr (.inl ⟨_, .tup h2, by rfl⟩)⟩
  · exact ⟨.inr (.inr (.inr (.inr (.inl ⟨t, _, rfl, .inl (SqL.of h2)⟩)))), .inr (.inl ⟨_, .lst h2, by rfl⟩)⟩
  · exact ⟨.inr (.inr (.inr (.inr (.inr ⟨t, _, rfl, h3⟩)))), .inr (.inl ⟨_, .dK h3, by rfl⟩)⟩
theorem row_it {K : PySem.W.Frag} {H : Hp} {F : Addr → Prop} {xs : List V} (h : RowT H F xs) : xs.length ≤ 30 ∧ ∀ x ∈ xs, ItT K H x := by
  have stA : ∀ rs : List Str, (∀ z ∈ rs, isNm z = true) → ∀ x ∈ rs.map V.str, ItT K H x := fun rs hr x hx => by
    obtain ⟨z, hz, rfl⟩ := List.mem_map.mp hx
    exact itT_str (nm_ok (hr z hz)).1
  have one : ∀ rs : List Str, NmL rs → (rs.map V.str).length ≤ 30 ∧ ∀ x ∈ rs.map V.str, ItT K H x := fun rs h => ⟨by have := h.1; simp; omega, stA rs h.2⟩
  obtain ⟨o, ⟨⟨rs, rfl, h⟩ | ⟨p, q, rfl, h⟩, ho⟩ | ⟨rs, rfl, h⟩⟩ := h
  · exact one rs h
  · refine ⟨by have := h.1; simp at this ⊢; omega, fun x hx => ?_⟩
    rcases List.mem_append.mp hx with hx | hx
    · exact stA p (fun z hz => h.2 z (by simp [hz])) x hx
    · rcases List.mem_cons.mp hx with rfl | hx
      · exact ho.it
      · exact stA q (fun z hz => h.2 z (by simp [hz])) x hx
  · exact one rs h
theorem thing_th {K : PySem.W.Frag} {H : Hp} {F : Addr → Prop} {u : V} (h : ThingK K H F u) : ∃ g, ThM K H u g := by
  rcases h with ⟨a, xs, rfl, h2, h3⟩ | ⟨a, rs, rfl, h9, h2, h3⟩ | h | ⟨z, rfl, h⟩ | ⟨a, rs, rfl, h2, h3, h4⟩ | ⟨a, b, rs, rfl, h2, h3, h4⟩
  · obtain ⟨l, it⟩ := row_it (K := K) h3
    exact ⟨.row xs, a, rfl, h2, l, it⟩
  · exact ⟨.odd, _, .lst h2, by rfl⟩
  · rcases h with rfl | rfl | rfl | ⟨z, hz, rfl⟩ | ⟨t, rfl, h2⟩ | ⟨t, rfl, h3, h2⟩ | ⟨t, rfl, h2, h3⟩
    · exact ⟨.odd, _, .non, by rfl⟩
    · exact ⟨.odd, _, .int 1, by rfl⟩
    · exact ⟨.odd, _, .bl true, by rfl⟩
    · exact ⟨.odd, _, .str z, by rfl⟩
    · exact ⟨.row [.str "a"], t, rfl, SqT.of h2, by decide, fun x hx => by rw [List.mem_singleton.mp hx]; exact itT_str (by decide +kernel)⟩
    · exact ⟨.odd, _, .lst h2, by rfl⟩
    · exact ⟨.odd, _, .dK h3, by rfl⟩
  · exact ⟨.odd, _, .str z, by rfl⟩
  · exact ⟨.odd, _, .dK h3, by rfl⟩
  · exact ⟨.row [.ref b], a, rfl, h2, by simp, fun x hx => by rw [List.mem_singleton.mp hx]; exact ⟨.inr (.inr (.inr (.inr (.inl ⟨b, _, rfl, .inr h3⟩)))), .inr (.inr ⟨b, _, rfl, h3⟩)⟩⟩
noncomputable def Q4 (k w : Nat) (d : PyData) : Prop := d.showable = true ∧ d.leavesShort 13 = true ∧ d.depth ≤ k ∧ d.weight ≤ w
theorem q4_all {k w : Nat} : ∀ {ds : List PyData}, (∀ d ∈ ds, Q4 k w d) → PyData.showableAll ds = true ∧ PyData.leavesShortAll 13 ds = true ∧ PyData.depthAll ds ≤ k ∧ PyData.weightAll ds ≤ ds.length * (w + 1)
  | [], _ => ⟨by simp only [PyData.showableAll], by simp only [PyData.leavesShortAll], by simp only [PyData.depthAll]; omega, by simp only [PyData.weightAll]; omega⟩
  | d :: ds, h => by
    obtain ⟨a1, a2, a3, a4⟩ := h d (by simp)
    obtain ⟨b1, b2, b3, b4⟩ := q4_all (ds := ds) fun e he => h e (by simp [he])
    refine ⟨by simp only [PyData.showableAll, a1, b1, Bool.and_self], by simp only [PyData.leavesShortAll, a2, b2, Bool.and_self], by simp only [PyData.depthAll]; omega, ?_⟩
    simp only [PyData.weightAll, List.length_cons, Nat.add_mul]
    omega
theorem q4_str {z : Str} (h : PyData.strOk z = true) {w : Nat} (hl : z.length ≤ w) : Q4 0 w (.str z) := by
  refine ⟨by simp only [PyData.showable], ?_, by simp only [PyData.depth]; omega, by simp only [PyData.weight]; exact hl⟩
  simp only [PyData.leavesShort]
  rw [List.all_eq_true]
  intro c hc
  unfold PyData.strOk at h
  rw [← Array.all_toList, List.all_eq_true] at h
  have := of_decide_eq_true (h c hc)
  exact decide_eq_true (by omega)
theorem q4_nm {z : Str} (h : isNm z = true) : Q4 0 9 (.str z) := q4_str (nm_ok h).1 (by have := nm_len h; omega)
theorem q4_tup {k w n : Nat} {ds : List PyData} (h : ∀ d ∈ ds, Q4 k w d) (hn : ds.length ≤ n) : Q4 (k + 1) (n * (w + 1)) (.tuple ds) := by
  obtain ⟨a, b, c, e⟩ := q4_all h
  exact ⟨by simpa only [PyData.showable] using a, by simpa only [PyData.leavesShort] using b, by simp only [PyData.depth]; omega, by simp only [PyData.weight]; exact Nat.le_trans e (Nat.mul_le_mul_right _ hn)⟩
theorem Q4.le {k w k' w' : Nat} {d : PyData} (h : Q4 k w d) (hk : k ≤ k') (hw : w ≤ w') : Q4 k' w' d := ⟨h.1, h.2.1, Nat.le_trans h.2.2.1 hk, Nat.le_trans h.2.2.2 hw⟩
theorem flat_strs : ∀ rs : List Str, flatL (rs.map PyData.str) = true
  | [] => rfl
  | z :: rs => by simp only [List.map_cons, flatL, flatD, flat_strs rs, Bool.and_self]
local macro_rules | `(tactic| walk_at "rq1") => L2.mAlts "i_gSlc i_gSub"
theorem NmL.sub {as bs : List Str} (h : NmL as) (hs : ∀ z ∈ bs, z ∈ as) (hl : bs.length ≤ 12) : NmL bs := ⟨hl, fun z hz => h.2 z (hs z hz)⟩
theorem cut_fromA {xs : List V} {t : Int} (h0 : 0 ≤ t) : cutV xs (some t) none = xs.drop t.toNat := by
  by_cases h : t ≤ xs.length
  · exact cut_from h0 h
  · have e : HT.sIx xs.length 0 (some t) = xs.length := by unfold HT.sIx; simp [show ¬ t < 0 by omega]; omega
    unfold cutV
    rw [e, List.drop_length, List.take_nil, List.drop_eq_nil_of_le (by omega)]
theorem cut_at {xs : List V} {t : Int} (h0 : 0 ≤ t) (h1 : t ≤ xs.length) : cutV xs (some t) (some (t + 1)) = (xs.drop t.toNat).take 1 := by
  by_cases h : t + 1 ≤ xs.length
  · rw [cut_mid h0 (by omega) h]
    congr 1
    omega
  · have e : HT.sIx xs.length 0 (some t) = xs.length := by unfold HT.sIx; simp [show ¬ t < 0 by omega]; omega
    unfold cutV
    rw [e, List.drop_length, List.take_nil, List.drop_eq_nil_of_le (by omega), List.take_nil]
theorem nojoin_len : ∀ ys : List Str, (∀ z ∈ ys, z.length ≤ 8) → (ys.map (·.length)).sum ≤ 8 * ys.length
  | [], _ => by simp
  | y :: ys, h => by
    have := nojoin_len ys fun z hz => h z (List.mem_cons_of_mem _ hz)
    have := h y (by simp)
    simp only [List.map_cons, List.sum_cons, List.length_cons]
    omega
theorem nojoin_small {r : List Str} (h : NmL r) : (r.map (·.length)).sum + r.length * (("" : Str).length) ≤ 16777216 := by
  have := nojoin_len r fun z hz => (nm_ok (h.2 z hz)).2
  have := h.1
  have h3 : r.length * (("" : Str).length) = 0 := Nat.mul_zero _
  omega
theorem nojoin_str : ∀ (ws : List Str), (∀ z ∈ ws, PyData.strOk z = true) → PyData.strOk (Str.join "" ws) = true
  | [], _ => by decide +kernel
  | [x], h => h x (by simp)
  | x :: y :: r, h => ok_app (ok_app (h x (by simp)) (by decide +kernel)) (nojoin_str (y :: r) fun z hz => h z (List.mem_cons_of_mem _ hz))
theorem nojoin_ok {r : List Str} (h : NmL r) : PyData.strOk (Txt.join "" r) = true ∧ (Txt.join "" r).length ≤ 100 := by
  rw [txt_join]
  refine ⟨nojoin_str r fun z hz => (nm_ok (h.2 z hz)).1, ?_⟩
  have a := StrLaws.join_length_le "" r
  have := nojoin_len r fun z hz => (nm_ok (h.2 z hz)).2
  have := h.1
  have h3 : r.length * (("" : Str).length) = 0 := Nat.mul_zero _
  omega
theorem zip_self : ∀ r : List Str, zipK r (r.map V.str) = dsK (r.map fun z => (z, z))
  | [] => rfl
  | z :: r => by
    have ih := zip_self r
    unfold zipK dsK at ih ⊢
    simp only [List.map_cons, List.zip_cons_cons, ih]
noncomputable def BM (H : Hp) (d l : Addr) (v u : V) (r : List Str) (way at' : Int) (odd : V) (k : Int) : L2.St → Hp → Prop := fun σ' H' => ∃ p xs x7 x8, σ' = [some (V.ref d), some v, some u, some (.ref p), some (.int way), some (.int at'), some odd, x7, x8] ∧ H p = none ∧ ExtBut d H H' ∧ Feed H' d l ∧ Fz H H' ∧ H' p = some (.lst xs) ∧ OddM H' (fun t => H t = none) odd ∧ (∀ t, odd = .ref t → t ≠ p) ∧ RowW odd xs ∧ (k ≤ way → xs = r.map V.str)
noncomputable def BS (H : Hp) (d l : Addr) (v u : V) (r : List Str) (way at' : Int) (odd : V) : L2.St → Hp → Prop := fun σ' H' => ∃ p xs x7 x8, σ' = [some (V.ref d), some v, some u, some (.ref p), some (.int way), some (.int at'), some odd, x7, x8] ∧ H p = none ∧ ExtBut d H H' ∧ Feed H' d l ∧ Fz H H' ∧ H' p = some (.lst xs) ∧ OddM H' (fun t => H t = none) odd ∧ RowW odd xs ∧ (5 ≤ way → way ≤ 7 → xs = r.map V.str)
noncomputable def sp__law_bent (K : PySem.W.Frag) : Sp := fun vs H Q _ => ∃ d l v u ns ps r, vs = [.ref d, v, u] ∧ Feed H d l ∧ Is K H (hfD ns ps) v ∧ Half ns ps ∧ Is K H (nmD r) u ∧ (∀ z ∈ r, isNm z = true) ∧ r.Nodup ∧ r.length ≤ 10 ∧ ∀ w H', ExtBut d H H' → Feed H' d l → ThingK K H' (fun t => H t = none) w → Q w H'
theorem odd_ne {H : Hp} {F : Addr → Prop} {p : Addr} {o : V} (h : OddM H F o) (hp : H p = none) : ∀ t, o = .ref t → t ≠ p := by
  rcases h with rfl | rfl | rfl | ⟨z, hz, rfl⟩ | ⟨t, rfl, h2⟩ | ⟨t, rfl, h3, h2⟩ | ⟨t, rfl, h2, h3⟩
  · intro t e; cases e
  · intro t e; cases e
  · intro t e; cases e
  · intro t e; cases e
  · intro t' e; cases e; exact ne_of_none h2 hp
  · intro t' e; cases e; exact ne_of_none h2 hp
  · intro t' e; cases e; exact ne_of_none h3 hp
theorem row_nms {odd : V} {xs : List V} {rs : List Str} (e : xs = rs.map V.str) (h : NmL rs) : RowW odd xs := .inl ⟨rs, e, h⟩
theorem ok__law_bent {f : Addr} {fd : FuncData} (F : Fun K "_law_bent" "_law_bent" s__law_bent f fd) (T : TopF mg) (c__law_draw : Fnd P w K mg base 1 "_law_draw" ["_law_feed_here", "_law_many"] (sp__law_draw K)) : FnOk P w K mg base CX0 2 f fd ["_law_feed_here", "_law_half_here", "_law_order"] (sp__law_bent K) := by
  refine F.ok sc__law_bent (fun vs H Q E h => ?_) (fun cdv A outer s H vs Q E hr h => ?_)
  · obtain ⟨d, l, v, u, ns, ps, r, rfl, _⟩ := h
    rfl
  · obtain ⟨d, l, v, u, ns, ps, r, rfl, hF, hI, hH, hR, hnm, hnd, h10, k⟩ := h
    have hu := hu_of hr
    have hq := qa_of hr
    have hrN : NmL r := ⟨by omega, hnm⟩
    obtain ⟨ua, rfl, hSu⟩ := hR.nm
    with_reducible refine ⟨_, (pss_cons (ps_set (i := 3) sc__law_bent.nd (by with_unfolding_all rfl) (by with_unfolding_all exact Or.inl rfl) (pe_callTy (call_listK (K := K)) (by with_unfolding_all rfl) T.b_list PyProof.Rows.Boot.«list» (pa_cons (pv 2) pa_nil)))
      (pss_cons (ps_set (i := 4) sc__law_bent.nd (by with_unfolding_all rfl) (by with_unfolding_all exact Or.inl rfl) (pe_fn c__law_draw (hr.mono (by decide)) (by with_unfolding_all rfl) (pa_cons (pv 0) (pa_cons pe_int pa_nil))))
      (pss_cons (ps_set (i := 5) sc__law_bent.nd (by with_unfolding_all rfl) (by with_unfolding_all exact Or.inl rfl) (pe_fn c__law_draw (hr.mono (by decide)) (by with_unfolding_all rfl) (pa_cons (pv 0) (pa_cons (pe_op (op_addK (K := K)) (pe_callB (call_lenK (K := K)) (by with_unfolding_all rfl) T.b_len PyProof.Rows.Boot.«len» (pa_cons (pv 3) pa_nil)) pe_int) pa_nil))))
      (pss_cons (ps_set (i := 6) sc__law_bent.nd (by with_unfolding_all rfl) (by with_unfolding_all exact Or.inl rfl) (pe_ix (ix_anyK (K := K) hu) (pe_lst (pa_cons pe_non (pa_cons pe_int (pa_cons pe_str (pa_cons pe_str (pa_cons (pe_tup (pa_cons pe_str pa_nil)) (pa_cons (pe_lst (pa_cons pe_str pa_nil)) (pa_cons pe_str (pa_cons pe_bl (pa_cons pe_str (pa_cons pe_dnewK pa_nil))))))))))) (pe_fn c__law_draw (hr.mono (by decide)) (by with_unfolding_all rfl) (pa_cons (pv 0) (pa_cons pe_int pa_nil))) (by with_unfolding_all exact fun _ _ => rfl)))
      (pss_cons (ps_if (pt_cmpR (op_eqK (K := K) hq) (pv 4) pe_int (nomark _)) (pss_one (ps_set (i := 3) sc__law_bent.nd (by with_unfolding_all rfl) (by with_unfolding_all exact Or.inl rfl) (pe_op (op_addK (K := K)) (pe_slice (sl_K (K := K)) (pv 3) po_none (po_some (pv 5))) (pe_slice (sl_K (K := K)) (pv 3) (po_some (pe_op (op_addK (K := K)) (pv 5) pe_int)) po_none)))) pss_nil)
      (pss_cons (ps_if (pt_cmpR (op_eqK (K := K) hq) (pv 4) pe_int (nomark _)) (pss_one (ps_set (i := 3) sc__law_bent.nd (by with_unfolding_all rfl) (by with_unfolding_all exact Or.inl rfl) (pe_op (op_addK (K := K)) (pe_op (op_addK (K := K)) (pe_slice (sl_K (K := K)) (pv 3) po_none (po_some (pv 5))) (pe_slice (sl_K (K := K)) (pv 3) (po_some (pv 5)) (po_some (pe_op (op_addK (K := K)) (pv 5) pe_int)))) (pe_slice (sl_K (K := K)) (pv 3) (po_some (pv 5)) po_none)))) pss_nil)
      (pss_cons (ps_if (pt_cmpR (op_eqK (K := K) hq) (pv 4) pe_int (nomark _)) (pss_one (ps_expr (pe_bmK (K := K) PySem.F.plainAttrs_list PySem.F.slot_list_insert PySem.F.type_list_insert (mm mt_insert) (pv 3) (pa_cons (pv 5) (pa_cons (pv 6) pa_nil))))) pss_nil)
      (pss_cons (ps_if (pt_cmpR (op_eqK (K := K) hq) (pv 4) pe_int (nomark _)) (pss_one (ps_asg (pe_lst (pa_cons (pv 6) pa_nil)) (pg_slc (pv 3) (po_some (pv 5)) (po_some (pe_op (op_addK (K := K)) (pv 5) pe_int))))) pss_nil)
      (pss_cons (ps_if (pt_cmpR (op_eqK (K := K) hq) (pv 4) pe_int (nomark _)) (pss_one (ps_set (i := 3) sc__law_bent.nd (by with_unfolding_all rfl) (by with_unfolding_all exact Or.inl rfl) (pe_sliceStep (pv 3) (pe_un un_neg pe_int)))) pss_nil)
      (pss_cons (ps_if (PW.pt (pw_and (pt_cmpR op_gt (pv 4) pe_int (nomark _)) (pw_and1 (pt_cmpR op_gt (pe_callB (call_lenK (K := K)) (by with_unfolding_all rfl) T.b_len PyProof.Rows.Boot.«len» (pa_cons (pv 3) pa_nil)) pe_int (nomark _))))) (pss_cons (ps_set (i := 7) sc__law_bent.nd (by with_unfolding_all rfl) (by with_unfolding_all exact Or.inl rfl) (pe_fn c__law_draw (hr.mono (by decide)) (by with_unfolding_all rfl) (pa_cons (pv 0) (pa_cons (pe_op op_sub (pe_callB (call_lenK (K := K)) (by with_unfolding_all rfl) T.b_len PyProof.Rows.Boot.«len» (pa_cons (pv 3) pa_nil)) pe_int) pa_nil))))
      (pss_cons (ps_set (i := 8) sc__law_bent.nd (by with_unfolding_all rfl) (by with_unfolding_all exact Or.inl rfl) (pe_ix (ix_anyK (K := K) hu) (pe_lst (pa_cons (pe_op (op_addK (K := K)) (pv 7) pe_int) (pa_cons (pe_fn c__law_draw (hr.mono (by decide)) (by with_unfolding_all rfl) (pa_cons (pv 0) (pa_cons (pe_callB (call_lenK (K := K)) (by with_unfolding_all rfl) T.b_len PyProof.Rows.Boot.«len» (pa_cons (pv 3) pa_nil)) pa_nil))) pa_nil))) (pe_op op_sub (pv 4) pe_int) (by with_unfolding_all exact fun _ _ => rfl)))
      (pss_one (ps_asg (pe_tup (pa_cons (pe_ix (ix_anyK (K := K) hu) (pv 3) (pv 8) (by with_unfolding_all exact fun _ _ => rfl)) (pa_cons (pe_ix (ix_anyK (K := K) hu) (pv 3) (pv 7) (by with_unfolding_all exact fun _ _ => rfl)) pa_nil))) (pg_tupK (K := K) (n := 2) (by with_unfolding_all rfl) (pgs_cons (pg_sub (pv 3) (pv 7) set_list) (pgs_cons (pg_sub (pv 3) (pv 8) set_list) pgs_nil))))))) pss_nil)
      (pss_cons (ps_if (pt_cmpR (op_eqK (K := K) hq) (pv 4) pe_int (nomark _)) (pss_one (ps_ret (pe_ix (ix_anyK (K := K) hu) (pe_lst (pa_cons (pv 3) (pa_cons (pv 6) (pa_cons (pe_bmK (K := K) PySem.F.plainAttrs_str PySem.F.slot_str_join PySem.F.type_str_join (mt_joinK (K := K)) pe_str (pa_cons (pv 3) pa_nil)) (pa_cons (pe_dictZipL (K := K) hr.hd (by with_unfolding_all rfl) T.b_dict (by with_unfolding_all rfl) T.b_zip (pa_cons (pv 3) (pa_cons (pv 3) pa_nil))) pa_nil))))) (pe_fn c__law_draw (hr.mono (by decide)) (by with_unfolding_all rfl) (pa_cons (pv 0) (pa_cons pe_int pa_nil))) (by with_unfolding_all exact fun _ _ => rfl)))) pss_nil)
      (pss_cons (ps_if (pt_cmpR (op_eqK (K := K) hq) (pv 4) pe_int (nomark _)) (pss_one (ps_ret (pe_ix (ix_anyK (K := K) hu) (pv 1) pe_int (by with_unfolding_all exact fun _ _ => rfl)))) pss_nil)
      (pss_cons (ps_if (pt_cmpR (op_eqK (K := K) hq) (pv 4) pe_int (nomark _)) (pss_one (ps_ret (pe_tup (pa_cons (pe_callTy (call_tupleK (K := K)) (by with_unfolding_all rfl) T.b_tuple PyProof.Rows.Boot.«tuple» (pa_cons (pv 3) pa_nil)) pa_nil)))) pss_nil)
      (pss_one (ps_ret (pe_callTy (call_tupleK (K := K)) (by with_unfolding_all rfl) T.b_tuple PyProof.Rows.Boot.«tuple» (pa_cons (pv 3) pa_nil))))))))))))))))), ?_⟩
    walk_at "rd"
    refine i_listA (.inr hSu) fun p H1 hp1 e1 h1 => ?_
    have hF1 := hF.same e1
    walk_at "rd"
    refine ⟨d, l, 10, rfl, hF1, by omega, by omega, fun way H2 hw0 hw1 e2 hF2 => ?_⟩
    have h2 := e2 _ _ (hF1.lst h1) h1
    walk_at "rd"
    refine ⟨d, l, _, rfl, hF2, by rw [List.length_map]; omega, by rw [List.length_map]; omega, fun at' H3 ha0 ha1 e3 hF3 => ?_⟩
    rw [List.length_map] at ha1
    have h3 := e3 _ _ (hF2.lst h2) h2
    walk_at "rd"
    refine i_newT (line_of (by simp)) fun t1 H4 ht1 e4 h4 => ?_
    walk_at "rd"
    refine i_newL (line_of (by simp)) fun l1 H5 hl1 e5 h5 => ?_
    walk_at "rd"
    refine i_newD fun d1 H6 hd1 e6 h6 => ?_
    walk_at "rd"
    refine i_newL (line_of (by simp)) fun s1 H7 hs1 e7 h7 => ?_
    have e37 := ((e4.trans e5).trans e6).trans e7
    have hF7 := hF3.same e37
    have hnd' : ∀ t, H t = none → t ≠ d := fun t h => Ne.symm (hF.nd h)
    have fr3 : ExtBut d H H3 := (ExtBut.after e1 e2).trans e3
    have hl0 : H l1 = none := (hF3.same e4).free (fr3.same e4) hl1
    have hd0 : H d1 = none := (hF3.same (e4.trans e5)).free (fr3.same (e4.trans e5)) hd1
    walk_at "rd"
    refine ⟨d, l, 10, rfl, hF7, by omega, by omega, fun b H8 hb0 hb1 e8 hF8 => ?_⟩
    have h8 := e8 _ _ (hF7.lst h7) h7
    have h8p := e8 _ _ (hF7.lst (e37 _ _ h3)) (e37 _ _ h3)
    have hp0 : H p = none := hp1
    have fr8 : ExtBut d H H8 := (((ExtBut.after e1 e2).trans e3).same e37).trans e8
    have fz8 : Fz H H8 := (((e1.fz.trans (hF1.fz e2)).trans (hF2.fz e3)).trans e37.fz).trans (hF7.fz e8)
    have hall : ∀ x ∈ [V.non, .int 1, .str "a", .str "zzzzzzzzz", .ref t1, .ref l1, .str "", .bl true, .str "A", .ref d1], OddM H7 (fun t => H t = none) x := fun x hx => by
      simp only [List.mem_cons, List.not_mem_nil, or_false] at hx
      rcases hx with rfl | rfl | rfl | rfl | rfl | rfl | rfl | rfl | rfl | rfl
      · exact .inl rfl
      · exact .inr (.inl rfl)
      · exact .inr (.inr (.inr (.inl ⟨"a", by simp [oddS], rfl⟩)))
      · exact .inr (.inr (.inr (.inl ⟨"zzzzzzzzz", by simp [oddS], rfl⟩)))
      · exact .inr (.inr (.inr (.inr (.inl ⟨t1, rfl, e7 _ _ (e6 _ _ (e5 _ _ h4))⟩))))
      · exact .inr (.inr (.inr (.inr (.inr (.inl ⟨l1, rfl, hl0, e7 _ _ (e6 _ _ h5)⟩)))))
      · exact .inr (.inr (.inr (.inl ⟨"", by simp [oddS], rfl⟩)))
      · exact .inr (.inr (.inl rfl))
      · exact .inr (.inr (.inr (.inl ⟨"A", by simp [oddS], rfl⟩)))
      · exact .inr (.inr (.inr (.inr (.inr (.inr ⟨d1, rfl, hd0, e7 _ _ h6⟩)))))
    have hnp : ∀ x ∈ [V.non, .int 1, .str "a", .str "zzzzzzzzz", .ref t1, .ref l1, .str "", .bl true, .str "A", .ref d1], ∀ t, x = .ref t → t ≠ p := fun x hx t e => by
      subst e
      simp only [List.mem_cons, List.not_mem_nil, or_false] at hx
      rcases hx with h | h | h | h | h | h | h | h | h | h
      · cases h
      · cases h
      · cases h
      · cases h
      · cases h; exact Ne.symm (ne_of_none h3 ht1)
      · cases h; exact Ne.symm (ne_of_none (e4 _ _ h3) hl1)
      · cases h
      · cases h
      · cases h
      · cases h; exact Ne.symm (ne_of_none (e5 _ _ (e4 _ _ h3)) hd1)
    generalize hits : [V.non, .int 1, .str "a", .str "zzzzzzzzz", .ref t1, .ref l1, .str "", .bl true, .str "A", .ref d1] = its at h8 hall hnp
    have hil : its.length = 10 := by rw [← hits]; rfl
    have hbl : b.toNat < its.length := by omega
    have hg := List.getElem?_eq_getElem hbl
    have ho := (hall _ (List.getElem_mem hbl)).ext hnd' hF7 e8
    have hop := hnp _ (List.getElem_mem hbl)
    generalize its[b.toNat]'hbl = odd at hg ho hop
    clear hall hnp hits
    walk_at "rd"
    refine i_ixL h8 (show atI _ b = some odd from by have := atI_nat hg; rwa [Int.toNat_of_nonneg hb0] at this) ?_
    walk_at "rq"
    clear h7 h6 h5 h4 hs1 hd1 hl1 ht1 h8 e8 e7 e6 e5 e4 e37 e3 e2 e1 h3 h2 h1 hF1 hF2 hF3 hF7 hl0 hd0 fr3
    with_reducible refine i_cut (BM H d l v (.ref ua) r way at' odd 1) (fun N hN => ?_) (fun σ1 H9 hM => ?_)
    · walk_at "rq"
      refine iteD (fun hw => ?_) (fun hw => ?_)
      · have hw := V.int.inj hw
        walk_at "rq"
        refine i_slL (SqL.of h8p) fun q1 H9 hq1 e1 h1 => ?_
        walk_at "rq"
        refine i_slL (SqL.of (e1 _ _ h8p)) fun q2 H10 hq2 e2 h2 => ?_
        refine i_addL (e2 _ _ h1) h2 (line_of (by have a := cutV_length (r.map V.str) none (some at'); have b := cutV_length (r.map V.str) (some (at' + 1)) none; simp at a b; omega)) fun q3 H11 hq3 e3 h3 => ?_
        rw [cut_upto ha0, cut_fromA (by omega), ← List.map_take, ← List.map_drop, ← List.map_append] at h3
        have e13 := (e1.trans e2).trans e3
        walk_at "rq"
        refine hN _ _ ⟨q3, _, _, _, rfl, (hF8.same (e1.trans e2)).free (fr8.same (e1.trans e2)) hq3, fr8.same e13, hF8.same e13, fz8.trans e13.fz, h3, ho.same e13, odd_ne (ho.same (e1.trans e2)) hq3, row_nms rfl (hrN.sub (fun z hz => ?_) ?_), fun h => absurd h (by omega)⟩
        · rcases List.mem_append.mp hz with h | h
          · exact List.mem_of_mem_take h
          · exact List.mem_of_mem_drop h
        · rw [List.length_append, List.length_take, List.length_drop]
          omega
      · walk_at "rq"
        exact hN _ _ ⟨p, _, _, _, rfl, hp0, fr8, hF8, fz8, h8p, ho, hop, row_nms rfl hrN, fun _ => rfl⟩
    · obtain ⟨p, xs, x7, x8, rfl, hp0, fr, hFe, fz, hx, ho, hop, hW, hr⟩ := hM
      walk_at "rq"
      with_reducible refine i_cut (BM H d l v (.ref ua) r way at' odd 2) (fun N hN => ?_) (fun σ1 H9 hM => ?_)
      · walk_at "rq"
        refine iteD (fun hw => ?_) (fun hw => ?_)
        · have hw := V.int.inj hw
          obtain rfl := hr (by omega)
          walk_at "rq"
          refine i_slL (SqL.of hx) fun q1 H10 hq1 e1 h1 => ?_
          walk_at "rq"
          refine i_slL (SqL.of (e1 _ _ hx)) fun q2 H11 hq2 e2 h2 => ?_
          refine i_addL (e2 _ _ h1) h2 (line_of (by have a := cutV_length (r.map V.str) none (some at'); have b := cutV_length (r.map V.str) (some at') (some (at' + 1)); simp at a b; omega)) fun q3 H12 hq3 e3 h3 => ?_
          walk_at "rq"
          refine i_slL (SqL.of (e3 _ _ (e2 _ _ (e1 _ _ hx)))) fun q4 H13 hq4 e4 h4 => ?_
          refine i_addL (e4 _ _ h3) h4 (line_of (by have a := cutV_length (r.map V.str) none (some at'); have b := cutV_length (r.map V.str) (some at') (some (at' + 1)); have c := cutV_length (r.map V.str) (some at') none; simp at a b c ⊢; omega)) fun q5 H14 hq5 e5 h5 => ?_
          rw [cut_upto ha0, cut_fromA (by omega), cut_at ha0 (by rw [List.length_map]; omega), ← List.map_take, ← List.map_drop, ← List.map_take, ← List.map_append, ← List.map_append] at h5
          have e14 := ((e1.trans e2).trans e3).trans e4
          have e15 := e14.trans e5
          walk_at "rq"
          refine hN _ _ ⟨q5, _, _, _, rfl, (hFe.same e14).free (fr.same e14) hq5, fr.same e15, hFe.same e15, fz.trans e15.fz, h5, ho.same e15, odd_ne (ho.same e14) hq5, row_nms rfl (hrN.sub (fun z hz => ?_) ?_), fun h => absurd h (by omega)⟩
          · rcases List.mem_append.mp hz with h | h
            · rcases List.mem_append.mp h with h | h
              · exact List.mem_of_mem_take h
              · exact List.mem_of_mem_drop (List.mem_of_mem_take h)
            · exact List.mem_of_mem_drop h
          · rw [List.length_append, List.length_append, List.length_take, List.length_take, List.length_drop]
            omega
        · walk_at "rq"
          exact hN _ _ ⟨p, xs, _, _, rfl, hp0, fr, hFe, fz, hx, ho, hop, hW, fun h => hr (by omega)⟩
      · obtain ⟨p, xs, x7, x8, rfl, hp0, fr, hFe, fz, hx, ho, hop, hW, hr⟩ := hM
        walk_at "rq"
        with_reducible refine i_cut (BM H d l v (.ref ua) r way at' odd 3) (fun N hN => ?_) (fun σ1 H9 hM => ?_)
        · walk_at "rq"
          refine iteD (fun hw => ?_) (fun hw => ?_)
          · have hw := V.int.inj hw
            obtain rfl := hr (by omega)
            walk_at "rq"
            refine i_ins hx ha0 (by rw [List.length_map]; omega) (by rw [List.length_map]; omega) fun H10 e1 h1 => ?_
            walk_at "rq"
            refine hN _ _ ⟨p, _, _, _, rfl, hp0, fr.off hp0 e1, hFe.off e1 hp0 hF, fz.trans (e1.fzL hx), h1, ho.off hop e1, hop, .inr ⟨r.take at'.toNat, r.drop at'.toNat, ?_, hrN.sub (fun z hz => ?_) ?_⟩, fun h => absurd h (by omega)⟩
            · rw [insL, List.map_take, List.map_drop]
            · rwa [List.take_append_drop] at hz
            · rw [List.take_append_drop]
              omega
          · walk_at "rq"
            exact hN _ _ ⟨p, xs, _, _, rfl, hp0, fr, hFe, fz, hx, ho, hop, hW, fun h => hr (by omega)⟩
        · obtain ⟨p, xs, x7, x8, rfl, hp0, fr, hFe, fz, hx, ho, hop, hW, hr⟩ := hM
          walk_at "rq"
          with_reducible refine i_cut (BM H d l v (.ref ua) r way at' odd 4) (fun N hN => ?_) (fun σ1 H9 hM => ?_)
          · walk_at "rq"
            refine iteD (fun hw => ?_) (fun hw => ?_)
            · have hw := V.int.inj hw
              obtain rfl := hr (by omega)
              walk_at "rq"
              refine i_newL (line_of (by simp)) fun q1 H10 hq1 e1 h1 => ?_
              walk_at "rq1"
              walk_at "rq"
              refine i_slc (c := at' + 1) (e1 _ _ hx) h1 (ne_of_none hx hq1) ha0 (by omega) (by rw [List.length_map]; omega) (line_of (by simp; omega)) fun H11 e2 h2 => ?_
              walk_at "rq"
              have hFe1 := hFe.same e1
              refine hN _ _ ⟨p, _, _, _, rfl, hp0, (fr.same e1).off hp0 e2, hFe1.off e2 hp0 hF, (fz.trans e1.fz).trans (e2.fzL (e1 _ _ hx)), h2, (ho.same e1).off hop e2, hop, .inr ⟨r.take at'.toNat, r.drop (at' + 1).toNat, ?_, hrN.sub (fun z hz => ?_) ?_⟩, fun h => absurd h (by omega)⟩
              · rw [List.map_take, List.map_drop, List.append_assoc]
                rfl
              · rcases List.mem_append.mp hz with h | h
                · exact List.mem_of_mem_take h
                · exact List.mem_of_mem_drop h
              · rw [List.length_append, List.length_take, List.length_drop]
                omega
            · walk_at "rq"
              exact hN _ _ ⟨p, xs, _, _, rfl, hp0, fr, hFe, fz, hx, ho, hop, hW, fun h => hr (by omega)⟩
          · obtain ⟨p, xs, x7, x8, rfl, hp0, fr, hFe, fz, hx, ho, hop, hW, hr⟩ := hM
            walk_at "rq"
            with_reducible refine i_cut (BM H d l v (.ref ua) r way at' odd 5) (fun N hN => ?_) (fun σ1 H9 hM => ?_)
            · walk_at "rq"
              refine iteD (fun hw => ?_) (fun hw => ?_)
              · have hw := V.int.inj hw
                obtain rfl := hr (by omega)
                walk_at "rq"
                refine i_step (SqL.of hx) (.inr rfl) fun q1 H10 hq1 e1 h1 => ?_
                rw [stepV, if_neg (by omega), ← List.map_reverse] at h1
                walk_at "rq"
                exact hN _ _ ⟨q1, _, _, _, rfl, hFe.free fr hq1, fr.same e1, hFe.same e1, fz.trans e1.fz, h1, ho.same e1, odd_ne ho hq1, row_nms rfl (hrN.sub (fun z hz => List.mem_reverse.mp hz) (by rw [List.length_reverse]; omega)), fun h => absurd h (by omega)⟩
              · walk_at "rq"
                exact hN _ _ ⟨p, xs, _, _, rfl, hp0, fr, hFe, fz, hx, ho, hop, hW, fun h => hr (by omega)⟩
            · obtain ⟨p, xs, x7, x8, rfl, hp0, fr, hFe, fz, hx, ho, hop, hW, hr⟩ := hM
              walk_at "rq"
              with_reducible refine i_cut (BS H d l v (.ref ua) r way at' odd) (fun N hN => ?_) (fun σ1 H10 hM => ?_)
              · have stay : ∀ x7 x8, BS H d l v (.ref ua) r way at' odd [some (V.ref d), some v, some (.ref ua), some (.ref p), some (.int way), some (.int at'), some odd, x7, x8] H9 := fun x7 x8 => ⟨p, xs, x7, x8, rfl, hp0, fr, hFe, fz, hx, ho, hW, fun h _ => hr h⟩
                walk_at "rq"
                refine iteD (fun hw => ?_) (fun hw => ?_)
                · obtain rfl := hr (by omega)
                  have hlm : (r.map V.str).length = r.length := List.length_map ..
                  walk_at "rq"
                  refine iteD (fun hn => ?_) (fun hn => ?_)
                  · walk_at "rq"
                    refine ⟨d, l, _, rfl, hFe, by omega, by omega, fun k1 H10 hk0 hk1 e1 hFk => ?_⟩
                    have hx1 := e1 _ _ (hFe.lst hx) hx
                    obtain ⟨k1, rfl⟩ := Int.eq_ofNat_of_zero_le hk0
                    walk_at "rq"
                    refine ⟨d, l, _, rfl, hFk, by omega, by omega, fun k2 H11 hj0 hj1 e2 hFj => ?_⟩
                    have hx2 := e2 _ _ (hFk.lst hx1) hx1
                    obtain ⟨k2, rfl⟩ := Int.eq_ofNat_of_zero_le hj0
                    walk_at "rq"
                    refine i_newL (line_of (by simp)) fun q1 H12 hq1 e3 h3 => ?_
                    walk_at "rq"
                    have hj : ∃ j : Nat, j < r.length ∧ atI [V.int ((k1 : Int) + 1), V.int (k2 : Int)] (way - 8) = some (.int (j : Int)) := by
                      rcases (show way = 8 ∨ way = 9 by omega) with rfl | rfl
                      · exact ⟨k1 + 1, by omega, rfl⟩
                      · exact ⟨k2, by omega, rfl⟩
                    obtain ⟨j, hjl, hj⟩ := hj
                    refine i_ixL h3 hj ?_
                    walk_at "rq"
                    have hx3 := e3 _ _ hx2
                    have hk : k1 < r.length := by omega
                    refine i_ixL hx3 (atI_nat (v := .str r[j]) (by simp [hjl])) ?_
                    walk_at "rq"
                    refine i_ixL hx3 (atI_nat (v := .str r[k1]) (by simp [hk])) ?_
                    walk_at "rq"
                    refine i_newT (line_of (by simp)) fun q2 H13 hq2 e4 h4 => ?_
                    have hx4 := e4 _ _ hx3
                    refine ⟨q2, _, rfl, SqT.of h4, rfl, ?_⟩
                    refine ⟨_, _, rfl, ?_⟩
                    walk_at "rq1"
                    walk_at "rq"
                    refine i_setL hx4 (by omega) (by omega) fun H14 e5 h5 => ?_
                    refine ⟨_, _, rfl, ?_⟩
                    walk_at "rq1"
                    walk_at "rq"
                    refine i_setL h5 (by rw [List.length_set]; omega) (by rw [List.length_set]; omega) fun H15 e6 h6 => ?_
                    refine ⟨rfl, ?_⟩
                    rw [← List.map_set, ← List.map_set] at h6
                    have hE := (((fr.trans e1).trans e2).same (e3.trans e4))
                    have hFx := (hFj.same (e3.trans e4))
                    have hfz := ((fz.trans (hFe.fz e1)).trans (hFk.fz e2)).trans (e3.trans e4).fz
                    have hox := ((ho.ext hnd' hFe e1).ext hnd' hFk e2).same (e3.trans e4)
                    refine hN _ _ ⟨p, _, _, _, rfl, hp0, (hE.off hp0 e5).off hp0 e6, (hFx.off e5 hp0 hF).off e6 hp0 hF, (hfz.trans (e5.fzL hx4)).trans (e6.fzL h5), h6, (hox.off hop e5).off hop e6, row_nms rfl (hrN.sub (fun z hz => ?_) ?_), fun _ h => absurd h (by omega)⟩
                    · rcases List.mem_or_eq_of_mem_set hz with h | rfl
                      · rcases List.mem_or_eq_of_mem_set h with h | rfl
                        · exact h
                        · exact List.getElem_mem _
                      · exact List.getElem_mem _
                    · rw [List.length_set, List.length_set]
                      omega
                  · walk_at "rq"
                    exact hN _ _ (stay _ _)
                · walk_at "rq"
                  exact hN _ _ (stay _ _)
              · clear ho hop hx hr hFe fz fr hW
                obtain ⟨p, xs, x7, x8, rfl, hpe, fr, hFe, fz, hx, ho, hW, hr⟩ := hM
                walk_at "rd"
                refine iteD (fun hw => ?_) (fun hw => ?_)
                · have hw := V.int.inj hw
                  obtain rfl := hr (by omega) (by omega)
                  walk_at "rd"
                  refine i_join (SqL.of hx) (nojoin_small hrN) ?_
                  walk_at "rd"
                  refine i_dictZipL (SqL.of hx) (SqL.of hx) (by rw [List.length_map]) hnd (by omega) fun q1 H11 hq1 e1 h1 => ?_
                  walk_at "rd"
                  refine i_newL (line_of (by simp)) fun q2 H12 hq2 e2 h2 => ?_
                  have e12 := e1.trans e2
                  have hFe2 := hFe.same e12
                  walk_at "rd"
                  refine ⟨d, l, 4, rfl, hFe2, by omega, by omega, fun b H13 hb0 hb1 e3 hF3 => ?_⟩
                  have h3 := e3 _ _ (hFe2.lst h2) h2
                  have hx2 := e12 _ _ hx
                  have hth : ∀ x ∈ [V.ref p, odd, .str (Txt.join "" r), .ref q1], ThingK K H13 (fun t => H t = none) x := fun x hx => by
                    simp only [List.mem_cons, List.not_mem_nil, or_false] at hx
                    rcases hx with rfl | rfl | rfl | rfl
                    · exact .inr (.inl ⟨p, r, rfl, hpe, e3 _ _ (hFe2.lst hx2) hx2, hrN⟩)
                    · exact .inr (.inr (.inl ((ho.same e12).ext hnd' hFe2 e3)))
                    · exact .inr (.inr (.inr (.inl ⟨_, rfl, nojoin_ok hrN⟩)))
                    · have hqd : q1 ≠ d := Ne.symm (hFe.nd hq1)
                      refine .inr (.inr (.inr (.inr (.inl ⟨q1, r.map fun z => (z, z), rfl, hFe.free fr hq1, ?_, by rw [List.length_map]; omega, fun p hp => ?_⟩))))
                      · rw [← zip_self]
                        exact e3 _ _ hqd (e2 _ _ h1)
                      · obtain ⟨z, hz, rfl⟩ := List.mem_map.mp hp
                        exact ⟨hnm z hz, hnm z hz⟩
                  generalize hits : [V.ref p, odd, .str (Txt.join "" r), .ref q1] = its at h3 hth
                  have hil : its.length = 4 := by rw [← hits]; rfl
                  have hbl : b.toNat < its.length := by omega
                  have hg := List.getElem?_eq_getElem hbl
                  have hthb := hth _ (List.getElem_mem hbl)
                  generalize its[b.toNat]'hbl = w at hg hthb
                  walk_at "rd"
                  refine i_ixL h3 (show atI _ b = some w from by have := atI_nat hg; rwa [Int.toNat_of_nonneg hb0] at this) ?_
                  walk_at "rd"
                  exact k _ _ ((fr.same e12).trans e3) hF3 hthb
                · walk_at "rd"
                  refine iteD (fun hw => ?_) (fun hw => ?_)
                  · walk_at "rd"
                    refine i_ixH0 (hI.hf_fz fz) fun nv hN => ?_
                    walk_at "rd"
                    obtain ⟨a, rfl, hS⟩ := hN.nm
                    exact k _ _ fr hFe (.inl ⟨a, _, rfl, hS, ⟨.non, .inr ⟨ns, rfl, by have := hH.few; omega, hH.names.2⟩⟩⟩)
                  · walk_at "rd"
                    refine iteD (fun hw => ?_) (fun hw => ?_)
                    · have hw := V.int.inj hw
                      obtain rfl := hr (by omega) (by omega)
                      walk_at "rd"
                      refine i_tupleL (SqL.of hx) fun q1 H11 hq1 e1 h1 => ?_
                      walk_at "rd"
                      refine i_newT (line_of (by simp)) fun q2 H12 hq2 e2 h2 => ?_
                      walk_at "rd"
                      exact k _ _ (fr.same (e1.trans e2)) (hFe.same (e1.trans e2)) (.inr (.inr (.inr (.inr (.inr ⟨q2, q1, r, rfl, SqT.of h2, SqT.of (e2 _ _ h1), hrN⟩)))))
                    · walk_at "rd"
                      refine i_tupleL (SqL.of hx) fun q1 H11 hq1 e1 h1 => ?_
                      walk_at "rd"
                      exact k _ _ (fr.same e1) (hFe.same e1) (.inl ⟨q1, _, rfl, SqT.of h1, ⟨odd, .inl ⟨hW, ho.same e1⟩⟩⟩)
noncomputable def invK (one other : List Str) (k : Nat) : Nat := ((one.drop (k + 1)).filter fun x => decide (other.idxOf x < other.idxOf (one.getD k ""))).length
noncomputable def invN (one other : List Str) : Nat := ((List.range one.length).map (invK one other)).sum
noncomputable def sp_pairs_apart (K : PySem.W.Frag) : Sp := fun vs H Q _ => ∃ v u one other, vs = [v, u] ∧ Is K H (nmD one) v ∧ Is K H (nmD other) u ∧ (∀ x ∈ one, x ∈ other) ∧ one.length ≤ 10 ∧ other.length ≤ 10 ∧ ∀ H', Same H H' → Q (.int ((invN one other : Nat) : Int)) H'
noncomputable def sp__law_apart (K : PySem.W.Frag) : Sp := sp_pairs_apart K
theorem invS_succ (one other : List Str) (i : Nat) : ((List.range (i + 1)).map (invK one other)).sum = ((List.range i).map (invK one other)).sum + invK one other i := by
  rw [List.range_succ, List.map_append, List.sum_append]
  simp
theorem ok_pairs_apart {f : Addr} {fd : FuncData} (F : Fun K "pairs_apart" "pairs_apart" s_pairs_apart f fd) (T : TopF mg) : FnOk P w K mg base CX0 1 f fd ["one", "other"] (sp_pairs_apart K) := by
  refine F.ok sc_pairs_apart (fun vs H Q E h => ?_) (fun cdv A outer s H vs Q E hr h => ?_)
  · obtain ⟨v, u, one, other, rfl, _⟩ := h
    rfl
  · obtain ⟨v, u, one, other, rfl, hV, hU, hsub, h10, h10', k⟩ := h
    have hu := hu_of hr
    have hq := qa_of hr
    with_reducible refine ⟨_, (pss_cons (ps_setcomp (i := 2) ["name"] ["other"] [1] (by with_unfolding_all rfl) (by with_unfolding_all rfl) (by with_unfolding_all rfl) sc_pairs_apart.nd (by with_unfolding_all rfl) (by with_unfolding_all rfl) (pi_anyK (K := K) hu (pv 0)) (fun _ _ _ _ => (pg_name (i := 0) (by with_unfolding_all (show (["name", "other"] : List Str).Nodup; decide +kernel)) (by with_unfolding_all rfl) (by with_unfolding_all exact Or.inl rfl))) (gk_name (by decide)) (fun _ _ _ _ => pif_nil) (fun _ _ _ _ => (pe_bmT (K := K) PySem.F.slot_tuple_index PySem.F.type_tuple_index (mt_indexTK (K := K)) (pv 1) (pa_cons (pv 0) pa_nil))))
      (pss_cons (ps_set (i := 3) sc_pairs_apart.nd (by with_unfolding_all rfl) (by with_unfolding_all exact Or.inl rfl) pe_int)
      (pss_cons (ps_for PassesOwn.never (by with_unfolding_all rfl) (pi_enumL (K := K) (by with_unfolding_all rfl) T.b_enumerate (pa_cons (pv 2) pa_nil)) (pg_tupK (K := K) (n := 2) (by with_unfolding_all rfl) (pgs_cons (pg_name (i := 4) sc_pairs_apart.nd (by with_unfolding_all rfl) (by with_unfolding_all exact Or.inl rfl)) (pgs_cons (pg_name (i := 5) sc_pairs_apart.nd (by with_unfolding_all rfl) (by with_unfolding_all exact Or.inr rfl)) pgs_nil)))
      (pss_one (ps_set (i := 3) sc_pairs_apart.nd (by with_unfolding_all rfl) (by with_unfolding_all exact Or.inl rfl) (pe_op (op_addK (K := K)) (pv 3) (pe_callB (call_lenK (K := K)) (by with_unfolding_all rfl) T.b_len PyProof.Rows.Boot.«len» (pa_cons (pe_comp ["later"] ["seat"] [5] (by with_unfolding_all rfl) (by with_unfolding_all rfl) (by with_unfolding_all rfl) (pi_anyK (K := K) hu (pe_slice (sl_K (K := K)) (pv 2) (po_some (pe_op (op_addK (K := K)) (pv 4) pe_int)) po_none)) (fun _ _ _ _ => (pg_name (i := 0) (by with_unfolding_all (show (["later", "seat"] : List Str).Nodup; decide +kernel)) (by with_unfolding_all rfl) (by with_unfolding_all exact Or.inl rfl))) (gk_name (by decide)) (fun _ _ _ _ => (pif_one (pt_cmpR op_lt (pv 0) (pv 1) (nomark _)))) (fun _ _ _ _ => (pv 0))) pa_nil))))))
      (pss_one (ps_ret (pv 3)))))), ?_⟩
    walk_at "rd"
    refine comp_nm hV (fun _ => true) (fun x => PyData.int ((other.idxOf x : Nat) : Int)) (fun _ => rfl) (by omega) (fun i x H1 R R' hx e1 hR hR' => ?_) (fun q ys H1 hq1 e1 h1 hL1 => ?_)
    · have hU1 := hU.nm_fz e1.fz
      obtain ⟨ua, rfl, hSu⟩ := hU1.nm
      obtain ⟨f1, f2, f3⟩ := L2.idx_at (hsub x (List.mem_of_getElem? hx))
      walk_at "rd"
      refine i_tyT hSu ?_
      walk_at "rd"
      refine i_indexT hSu f1 f2 ?_
      exact hR rfl _ _ (.refl _) rfl
    · have hft : one.filter (fun _ => true) = one := by simp
      rw [hft, show one.map (fun x => PyData.int ((other.idxOf x : Nat) : Int)) = (one.map fun x => ((other.idxOf x : Nat) : Int)).map PyData.int by rw [List.map_map]; rfl] at hL1
      have hys := IsL.int_eq hL1
      subst hys
      walk_at "rd"
      refine for_enumL (SqL.of h1) (fun i σ H2 => ∃ x4 x5, σ = [some v, some u, some (.ref q), some (.int ((((List.range i).map (invK one other)).sum : Nat) : Int)), x4, x5] ∧ Same H1 H2)
        ⟨_, _, rfl, .refl _⟩ (fun i σ' H' hP => ?_) (fun i x σ' H2 H3 hx hP e3 => ?_) (fun σ' H2 hP => ?_)
      · obtain ⟨_, _, _, e⟩ := hP
        exact SqL.of (e _ _ h1)
      · obtain ⟨x4, x5, rfl, e2⟩ := hP
        rw [List.getElem?_map, List.getElem?_map] at hx
        cases hz : one[i]? with
        | none => rw [hz] at hx; cases hx
        | some z =>
          rw [hz] at hx
          cases hx
          have hin : i < one.length := (List.getElem?_eq_some_iff.mp hz).1
          have hgd : one.getD i "" = z := by rw [List.getD_eq_getElem?_getD, hz]; rfl
          have h3 := e3 _ _ (e2 _ _ h1)
          walk_at "rd"
          refine i_slL (SqL.of h3) fun q4 H4 hq4 e4 h4 => ?_
          rw [cut_from (by omega) (by rw [List.length_map, List.length_map]; omega), show (((i : Nat) : Int) + 1).toNat = i + 1 by omega, ← List.map_drop, ← List.map_drop] at h4
          refine i_itL (SqL.of h4) ?_
          refine comp_by (walk_list (xs := ((one.drop (i + 1)).map fun x => ((other.idxOf x : Nat) : Int)).map V.int)) (fun p m acc H5 => Same H4 H5 ∧ acc.length = (((one.drop (i + 1)).take m).filter fun x => decide (other.idxOf x < other.idxOf z)).length)
            (fun p H' hp' e' h' => ⟨e', rfl⟩) (fun p m acc H5 hP => SqL.of (hP.1 _ _ h4)) (fun p m x5 acc H5 hp' hx5 hm hl hpa hP => ?_) (fun p acc H5 hp' hpa hal hP => ?_)
          · obtain ⟨e5, hacc⟩ := hP
            rw [List.getElem?_map, List.getElem?_map] at hx5
            cases hy : (one.drop (i + 1))[m]? with
            | none => rw [hy] at hx5; cases hx5
            | some y =>
              rw [hy] at hx5
              cases hx5
              have htk : (one.drop (i + 1)).take (m + 1) = (one.drop (i + 1)).take m ++ [y] := by rw [List.take_add_one, hy]; rfl
              walk_at "rd"
              refine iteD (fun hc => ?_) (fun hc => ?_)
              · walk_at "rd"
                refine push_i (by rw [List.length_map, List.length_map, List.length_drop]; omega) hm hl hpa fun H6 e6 h6 => ?_
                refine ⟨e5.off hp' e6, ?_⟩
                rw [htk, List.filter_append, List.length_append, List.length_append, hacc, List.filter_cons, if_pos (decide_eq_true (Int.ofNat_lt.mp hc))]
                rfl
              · refine cn_skip hm hl hpa ⟨e5, ?_⟩
                rw [htk, List.filter_append, hacc, List.filter_cons, if_neg (by rw [decide_eq_false fun h => hc (Int.ofNat_lt.mpr h)]; decide), List.filter_nil, List.append_nil]
          · obtain ⟨e5, hacc⟩ := hP
            rw [List.length_map, List.length_map, List.take_length] at hacc
            have hk : acc.length = invK one other i := by rw [hacc]; unfold invK; rw [hgd]
            walk_at "rd"
            rw [hk]
            have hval : ((((List.range i).map (invK one other)).sum : Nat) : Int) + ((invK one other i : Nat) : Int) = ((((List.range (i + 1)).map (invK one other)).sum : Nat) : Int) := by rw [invS_succ]; omega
            rw [hval]
            exact ⟨_, _, rfl, ((e2.trans e3).trans e4).trans e5⟩
      · obtain ⟨x4, x5, rfl, e2⟩ := hP
        rw [List.length_map, List.length_map]
        walk_at "rd"
        exact k H2 (e1.trans e2)
theorem ok__law_apart {f : Addr} {fd : FuncData} (F : Fun K "_law_apart" "_law_apart" s__law_apart f fd) (T : TopF mg) : FnOk P w K mg base CX0 1 f fd ["_law_one", "_law_other"] (sp__law_apart K) := by
  refine F.ok sc__law_apart (fun vs H Q E h => ?_) (fun cdv A outer s H vs Q E hr h => ?_)
  · obtain ⟨v, u, one, other, rfl, _⟩ := h
    rfl
  · obtain ⟨v, u, one, other, rfl, hV, hU, hsub, h10, h10', k⟩ := h
    have hu := hu_of hr
    have hq := qa_of hr
    with_reducible refine ⟨_, (pss_cons (ps_set (i := 2) sc__law_apart.nd (by with_unfolding_all rfl) (by with_unfolding_all exact Or.inl rfl) pe_int)
      (pss_cons (ps_for PassesOwn.never (by with_unfolding_all rfl) (pi_range1 (by with_unfolding_all rfl) T.b_range (pa_cons (pe_callB (call_lenK (K := K)) (by with_unfolding_all rfl) T.b_len PyProof.Rows.Boot.«len» (pa_cons (pv 0) pa_nil)) pa_nil)) (pg_name (i := 3) sc__law_apart.nd (by with_unfolding_all rfl) (by with_unfolding_all exact Or.inr rfl))
      (pss_one (ps_set (i := 2) sc__law_apart.nd (by with_unfolding_all rfl) (by with_unfolding_all exact Or.inl rfl) (pe_op (op_addK (K := K)) (pv 2) (pe_callB (call_lenK (K := K)) (by with_unfolding_all rfl) T.b_len PyProof.Rows.Boot.«len» (pa_cons (pe_comp ["_law_name"] ["_law_other", "_law_one", "_law_k"] [1, 0, 3] (by with_unfolding_all rfl) (by with_unfolding_all rfl) (by with_unfolding_all rfl) (pi_anyK (K := K) hu (pe_slice (sl_K (K := K)) (pv 0) (po_some (pe_op (op_addK (K := K)) (pv 3) pe_int)) po_none)) (fun _ _ _ _ => (pg_name (i := 0) (by with_unfolding_all (show (["_law_name", "_law_other", "_law_one", "_law_k"] : List Str).Nodup; decide +kernel)) (by with_unfolding_all rfl) (by with_unfolding_all exact Or.inl rfl))) (gk_name (by decide)) (fun _ _ _ _ => (pif_one (pt_cmpR op_lt (pe_bmT (K := K) PySem.F.slot_tuple_index PySem.F.type_tuple_index (mt_indexTK (K := K)) (pv 1) (pa_cons (pv 0) pa_nil)) (pe_bmT (K := K) PySem.F.slot_tuple_index PySem.F.type_tuple_index (mt_indexTK (K := K)) (pv 1) (pa_cons (pe_ix (ix_anyK (K := K) hu) (pv 2) (pv 3) (by with_unfolding_all exact fun _ _ => rfl)) pa_nil)) (nomark _)))) (fun _ _ _ _ => (pv 0))) pa_nil))))))
      (pss_one (ps_ret (pv 2))))), ?_⟩
    walk_at "rd"
    refine i_lenN hV ?_
    walk_at "rd"
    refine i_rngv (by omega) ?_
    refine for_by walk_range (fun i σ H2 => ∃ x3, σ = [some v, some u, some (.int ((((List.range i).map (invK one other)).sum : Nat) : Int)), x3] ∧ Same H H2)
      ⟨_, rfl, .refl _⟩ (fun _ _ _ _ => trivial) (fun i x σ' H2 hx hi hP => ?_) (fun σ' H2 hP => ?_)
    · obtain ⟨x3, rfl, e2⟩ := hP
      obtain ⟨rfl, hi2⟩ := rng_get hx
      have hin : i < one.length := by omega
      obtain ⟨z, hz⟩ : ∃ z, one[i]? = some z := ⟨one[i], List.getElem?_eq_getElem hin⟩
      have hgd : one.getD i "" = z := by rw [List.getD_eq_getElem?_getD, hz]; rfl
      have hki : (0 + (i : Int)) = ((i : Nat) : Int) := by omega
      have hzo : z ∈ other := hsub z (List.mem_of_getElem? hz)
      obtain ⟨g1, g2, g3⟩ := L2.idx_at hzo
      have hV2 := hV.nm_fz e2.fz
      obtain ⟨va, hva, hSv⟩ := hV2.nm
      subst hva
      rw [hki]
      walk_at "rd"
      refine i_slT hSv fun q4 H4 e4 h4 => ?_
      rw [cut_from (by omega) (by rw [List.length_map]; omega), show (((i : Nat) : Int) + 1).toNat = i + 1 by omega, ← List.map_drop] at h4
      refine i_itT h4 ?_
      refine comp_by (walk_tup (xs := (one.drop (i + 1)).map V.str)) (fun p m acc H5 => Same H4 H5 ∧ acc.length = (((one.drop (i + 1)).take m).filter fun x => decide (other.idxOf x < other.idxOf z)).length)
        (fun p H' hp' e' h' => ⟨e', rfl⟩) (fun p m acc H5 hP => hP.1.seqT h4) (fun p m x5 acc H5 hp' hx5 hm hl hpa hP => ?_) (fun p acc H5 hp' hpa hal hP => ?_)
      · obtain ⟨e5, hacc⟩ := hP
        rw [List.getElem?_map] at hx5
        cases hy : (one.drop (i + 1))[m]? with
        | none => rw [hy] at hx5; cases hx5
        | some y =>
          rw [hy] at hx5
          cases hx5
          have htk : (one.drop (i + 1)).take (m + 1) = (one.drop (i + 1)).take m ++ [y] := by rw [List.take_add_one, hy]; rfl
          obtain ⟨f1, f2, f3⟩ := L2.idx_at (hsub y (List.mem_of_mem_drop (List.mem_of_getElem? hy)))
          have hU5 := hU.nm_fz ((e2.trans e4).trans e5).fz
          obtain ⟨ua, hua, hSu⟩ := hU5.nm
          subst hua
          have hSv5 := (e4.trans e5).seqT hSv
          walk_at "rd"
          refine i_tyT hSu ?_
          walk_at "rd"
          refine i_indexT hSu f1 f2 ?_
          walk_at "rd"
          refine i_tyT hSu ?_
          walk_at "rd"
          refine i_ixQ hSv5 (atI_nat (by rw [List.getElem?_map, hz]; rfl)) ?_
          walk_at "rd"
          refine i_indexT hSu g1 g2 ?_
          walk_at "rd"
          refine iteD (fun hc => ?_) (fun hc => ?_)
          · walk_at "rd"
            refine push_i (by rw [List.length_map, List.length_drop]; omega) hm hl hpa fun H6 e6 h6 => ?_
            refine ⟨e5.off hp' e6, ?_⟩
            rw [htk, List.filter_append, List.length_append, List.length_append, hacc, List.filter_cons, if_pos (decide_eq_true (by omega))]
            rfl
          · refine cn_skip hm hl hpa ⟨e5, ?_⟩
            rw [htk, List.filter_append, hacc, List.filter_cons, if_neg (by rw [decide_eq_false (by omega)]; decide), List.filter_nil, List.append_nil]
      · obtain ⟨e5, hacc⟩ := hP
        rw [List.length_map, List.take_length] at hacc
        have hk : acc.length = invK one other i := by rw [hacc]; unfold invK; rw [hgd]
        walk_at "rd"
        rw [hk]
        have hval : ((((List.range i).map (invK one other)).sum : Nat) : Int) + ((invK one other i : Nat) : Int) = ((((List.range (i + 1)).map (invK one other)).sum : Nat) : Int) := by rw [invS_succ]; omega
        rw [hval]
        exact ⟨_, rfl, (e2.trans e4).trans e5⟩
    · obtain ⟨x3, rfl, e2⟩ := hP
      rw [List.length_map, List.length_range, show ((one.length : Nat) : Int).toNat = one.length by omega]
      walk_at "rd"
      exact k H2 e2
noncomputable def RefN (H : Hp) (C : Addr) (E : XK) : Prop := ∀ a H', Same H H' → ExB false H' a C [] → E (.ref a) none H'
theorem RefN.mono {H H' : Hp} {C : Addr} {E : XK} (h : RefN H C E) (e : Same H H') : RefN H' C E := fun a H2 e2 hE => h a H2 (e.trans e2) hE
noncomputable def sp_refuse_no_order (K : PySem.W.Frag) : Sp := fun vs H Q _ => ∃ v u ns ps g, vs = [v, u] ∧ Is K H (hfD ns ps) v ∧ Half ns ps ∧ ThM K H u g ∧ OrdG ns ps g ∧ ∀ H', Same H H' → Q .non H'
noncomputable def spx_refuse_no_order (C : Addr) (K : PySem.W.Frag) : Sp := fun vs H Q E => ∃ v u ns ps g, vs = [v, u] ∧ Is K H (hfD ns ps) v ∧ Half ns ps ∧ ThM K H u g ∧ (OrdG ns ps g → ∀ H', Same H H' → Q .non H') ∧ (¬ OrdG ns ps g → RefN H C E)
noncomputable def spx_apart (C : Addr) (K : PySem.W.Frag) : Sp := fun vs H Q E => ∃ v u w ns ps g g', vs = [v, u, w] ∧ Is K H (hfD ns ps) v ∧ Half ns ps ∧ ThM K H u g ∧ ThM K H w g' ∧ ¬ (OrdG ns ps g ∧ OrdG ns ps g') ∧ RefN H C E
noncomputable abbrev spx_way_between := spx_apart
theorem ord_th {K : PySem.W.Frag} {H : Hp} {u : V} {ns r : List Str} {ps : List (Str × Str)} (h : Is K H (nmD r) u) (hH : Half ns ps) (hr : r ∈ ext (wayB ps) ns.length ns) : ThM K H u (.row (r.map V.str)) ∧ OrdG ns ps (.row (r.map V.str)) := by
  have hp := ((mem_ext _ _ _ _ hH.names.1 rfl).mp hr).1
  have hl := hp.length_eq
  have := hH.few
  obtain ⟨a, rfl, hS⟩ := h.nm
  refine ⟨⟨a, rfl, hS, by rw [List.length_map]; omega, fun x hx => ?_⟩, r, rfl, hr⟩
  obtain ⟨z, hz, rfl⟩ := List.mem_map.mp hx
  exact itT_str (nm_ok (hH.names.2 z (hp.mem_iff.mp hz))).1
theorem ok_refuse_no_order {f : Addr} {fd : FuncData} (F : Fun K "refuse_no_order" "refuse_no_order" s_refuse_no_order f fd) (T : TopF mg) (c_is_order : Fnd P w K mg base 1 "is_order" ["half", "thing"] (sp_is_order K)) : FnOk P w K mg base CX0 2 f fd ["half", "thing"] (sp_refuse_no_order K) := by
  refine F.ok sc_refuse_no_order (fun vs H Q E h => ?_) (fun cdv A outer s H vs Q E hr h => ?_)
  · obtain ⟨v, u, ns, ps, g, rfl, _⟩ := h
    rfl
  · obtain ⟨v, u, ns, ps, g, rfl, hI, hH, hg, hO, k⟩ := h
    have hu := hu_of hr
    have hq := qa_of hr
    with_reducible refine ⟨_, (pss_one (ps_if (pt_not (pt_val (pe_fn c_is_order (hr.mono (by decide)) (by with_unfolding_all rfl) (pa_cons (pv 0) (pa_cons (pv 1) pa_nil))))) (pss_one ps_never) pss_nil)), ?_⟩
    walk_at "rd"
    refine ⟨v, u, ns, ps, g, rfl, hI, hH, hg, fun b H1 e1 hb => ?_⟩
    obtain rfl := hb.mpr hO
    walk_at "rd"
    exact k H1 e1
theorem okx_refuse_no_order {f : Addr} {fd : FuncData} (F : Fun K "refuse_no_order" "refuse_no_order" s_refuse_no_order f fd) (T : TopF mg) {C_HalfError : Addr} {C_NoName : Addr} {C_NoOrder : Addr} (x_HalfError : Xls_HalfError K mg C_HalfError C_HalfError) (x_NoName : Xls_NoName K mg C_NoName C_HalfError) (x_NoOrder : Xls_NoOrder K mg C_NoOrder C_HalfError) (c_is_order : Fnd P w K mg base 1 "is_order" ["half", "thing"] (sp_is_order K)) : FnOk P w K mg base (CX1 P w) 2 f fd ["half", "thing"] (spx_refuse_no_order C_NoOrder K) := by
  refine F.ok1 sc_refuse_no_order (fun vs H Q E h => ?_) (fun cdv A outer s H vs Q E hr h => ?_)
  · obtain ⟨v, u, ns, ps, g, rfl, _⟩ := h
    rfl
  · obtain ⟨v, u, ns, ps, g, rfl, hI, hH, hg, k, kn⟩ := h
    have hu := hu_of hr
    have hq := qa_of hr
    with_reducible refine ⟨_, (pss_one (ps_if (pt_not (pt_val (pe_fn c_is_order (hr.mono (by decide)) (by with_unfolding_all rfl) (pa_cons (pv 0) (pa_cons (pv 1) pa_nil))))) (pss_one (ps_raise (by with_unfolding_all rfl) (pe_xmk0 x_NoOrder.mk0 (by with_unfolding_all rfl) (pa_cons pe_str pa_nil)))) pss_nil)), ?_⟩
    walk_at "rd"
    refine ⟨v, u, ns, ps, g, rfl, hI, hH, hg, fun b H1 e1 hb => ?_⟩
    cases b with
    | true =>
      walk_at "rd"
      exact k (hb.mp rfl) H1 e1
    | false =>
      have kn := (kn fun h => by have := hb.mpr h; cases this).mono e1
      walk_at "rd"
      refine i_mkX0 (by decide) fun a H2 ha2 e2 hE => ?_
      walk_at "rd"
      exact i_raise hE x_NoOrder.xc (e1.free ha2) fun H3 kp hE3 => kn a H3 (fun b o q => kp b o (ne_of_none q ha2) (e2 _ _ q)) hE3
noncomputable def sp_apart (K : PySem.W.Frag) : Sp := fun vs H Q _ => ∃ v u w ns ps one other, vs = [v, u, w] ∧ Is K H (hfD ns ps) v ∧ Half ns ps ∧ Is K H (nmD one) u ∧ one ∈ ext (wayB ps) ns.length ns ∧ Is K H (nmD other) w ∧ other ∈ ext (wayB ps) ns.length ns ∧ ∀ H', Same H H' → Q (.int ((invN one other : Nat) : Int)) H'
theorem ok_apart {f : Addr} {fd : FuncData} (F : Fun K "apart" "apart" s_apart f fd) (T : TopF mg) (c_refuse_no_order : Fnd P w K mg base 2 "refuse_no_order" ["half", "thing"] (sp_refuse_no_order K)) (c_pairs_apart : Fnd P w K mg base 1 "pairs_apart" ["one", "other"] (sp_pairs_apart K)) : FnOk P w K mg base CX0 3 f fd ["half", "one", "other"] (sp_apart K) := by
  refine F.ok sc_apart (fun vs H Q E h => ?_) (fun cdv A outer s H vs Q E hr h => ?_)
  · obtain ⟨v, u, w, ns, ps, one, other, rfl, _⟩ := h
    rfl
  · obtain ⟨v, u, w, ns, ps, one, other, rfl, hI, hH, hU, h1, hV, h2, k⟩ := h
    have hu := hu_of hr
    have hq := qa_of hr
    obtain ⟨g1, o1⟩ := ord_th hU hH h1
    obtain ⟨g2, o2⟩ := ord_th hV hH h2
    have p1 := ((mem_ext _ _ _ _ hH.names.1 rfl).mp h1).1
    have p2 := ((mem_ext _ _ _ _ hH.names.1 rfl).mp h2).1
    have l1 := p1.length_eq
    have l2 := p2.length_eq
    have h10 := hH.few
    with_reducible refine ⟨_, (pss_cons (ps_expr (pe_fn c_refuse_no_order (hr.mono (by decide)) (by with_unfolding_all rfl) (pa_cons (pv 0) (pa_cons (pv 1) pa_nil))))
      (pss_cons (ps_expr (pe_fn c_refuse_no_order (hr.mono (by decide)) (by with_unfolding_all rfl) (pa_cons (pv 0) (pa_cons (pv 2) pa_nil))))
      (pss_one (ps_ret (pe_fn c_pairs_apart (hr.mono (by decide)) (by with_unfolding_all rfl) (pa_cons (pv 1) (pa_cons (pv 2) pa_nil))))))), ?_⟩
    walk_at "rd"
    refine ⟨v, u, ns, ps, _, rfl, hI, hH, g1, o1, fun H1 e1 => ?_⟩
    walk_at "rd"
    refine ⟨v, w, ns, ps, _, rfl, hI.hf_fz e1.fz, hH, g2.same e1, o2, fun H2 e2 => ?_⟩
    have e := e1.trans e2
    walk_at "rd"
    exact ⟨u, w, one, other, rfl, hU.nm_fz e.fz, hV.nm_fz e.fz, fun x hx => p2.mem_iff.mpr (p1.mem_iff.mp hx), by omega, by omega, fun H3 e3 => k H3 (e.trans e3)⟩
theorem okx_apart {f : Addr} {fd : FuncData} (F : Fun K "apart" "apart" s_apart f fd) (T : TopF mg) {C_HalfError : Addr} {C_NoName : Addr} {C_NoOrder : Addr} (x_HalfError : Xls_HalfError K mg C_HalfError C_HalfError) (x_NoName : Xls_NoName K mg C_NoName C_HalfError) (x_NoOrder : Xls_NoOrder K mg C_NoOrder C_HalfError) (c_pairs_apart : Fnd P w K mg base 1 "pairs_apart" ["one", "other"] (sp_pairs_apart K)) (d_refuse_no_order : Fnd1 P w K mg base 2 "refuse_no_order" ["half", "thing"] (spx_refuse_no_order C_NoOrder K)) : FnOk P w K mg base (CX1 P w) 3 f fd ["half", "one", "other"] (spx_apart C_NoOrder K) := by
  refine F.ok1 sc_apart (fun vs H Q E h => ?_) (fun cdv A outer s H vs Q E hr h => ?_)
  · obtain ⟨v, u, w, ns, ps, g, g', rfl, _⟩ := h
    rfl
  · obtain ⟨v, u, w, ns, ps, g, g', rfl, hI, hH, hg, hg', hno, kn⟩ := h
    have hu := hu_of hr
    have hq := qa_of hr
    with_reducible refine ⟨_, (pss_cons (ps_expr (pe_fn1 d_refuse_no_order (hr.mono (by decide)) (by with_unfolding_all rfl) pass1' (pa_cons (pv 0) (pa_cons (pv 1) pa_nil))))
      (pss_cons (ps_expr (pe_fn1 d_refuse_no_order (hr.mono (by decide)) (by with_unfolding_all rfl) pass1' (pa_cons (pv 0) (pa_cons (pv 2) pa_nil))))
      (pss_one (ps_ret (pe_fn c_pairs_apart (hr.mono (by decide)) (by with_unfolding_all rfl) (pa_cons (pv 1) (pa_cons (pv 2) pa_nil))))))), ?_⟩
    walk_at "rd"
    refine ⟨v, u, ns, ps, g, rfl, hI, hH, hg, fun h1 H1 e1 => ?_, fun h1 => kn⟩
    walk_at "rd"
    exact ⟨v, w, ns, ps, g', rfl, hI.hf_fz e1.fz, hH, hg'.same e1, fun h2 => absurd ⟨h1, h2⟩ hno, fun h2 => kn.mono e1⟩
noncomputable def invR (o : List Str) : List Str → Nat
  | [] => 0
  | x :: t => (t.filter fun y => decide (o.idxOf y < o.idxOf x)).length + invR o t
theorem invK_zero (x : Str) (t o : List Str) : invK (x :: t) o 0 = (t.filter fun y => decide (o.idxOf y < o.idxOf x)).length := rfl
theorem inv_rec (o : List Str) : ∀ r : List Str, invN r o = invR o r
  | [] => rfl
  | x :: t => by
    have ih := inv_rec o t
    unfold invN at ih ⊢
    rw [List.length_cons, List.range_succ_eq_map, List.map_cons, List.map_map, List.sum_cons, invR, ← ih, invK_zero]
    rfl
theorem inv_swap {o : List Str} {x y : Str} {bs : List Str} (h : o.idxOf y < o.idxOf x) : ∀ as : List Str, invR o (as ++ x :: y :: bs) = invR o (as ++ y :: x :: bs) + 1
  | [] => by
    have h' : ¬ o.idxOf x < o.idxOf y := by omega
    simp only [List.nil_append, invR, List.filter_cons, h, h', decide_true, decide_false, if_true, Bool.false_eq_true, if_false, List.length_cons]
    omega
  | a :: as => by
    have ih := inv_swap (bs := bs) h as
    have hp : (as ++ x :: y :: bs).Perm (as ++ y :: x :: bs) := List.Perm.append_left as (List.Perm.swap y x bs)
    have hl := (hp.filter fun z => decide (o.idxOf z < o.idxOf a)).length_eq
    simp only [List.cons_append, invR]
    omega
theorem inv_self {o : List Str} : ∀ {r : List Str}, r.Pairwise (fun a b => o.idxOf a < o.idxOf b) → invR o r = 0
  | [], _ => rfl
  | x :: t, h => by
    obtain ⟨h1, h2⟩ := List.pairwise_cons.mp h
    have e : (t.filter fun y => decide (o.idxOf y < o.idxOf x)) = [] := List.filter_eq_nil_iff.mpr fun y hy => by
      have := h1 y hy
      simp
      omega
    rw [invR, e, inv_self h2]
    rfl
theorem idx_ne {x a : Str} {t : List Str} (h : x ≠ a) : (x :: t).idxOf a = t.idxOf a + 1 := by
  rw [List.idxOf_cons, beq_eq_false_iff_ne.mpr h]
  rfl
theorem idx_pw : ∀ {o : List Str}, o.Nodup → o.Pairwise fun a b => o.idxOf a < o.idxOf b
  | [], _ => .nil
  | x :: t, h => by
    obtain ⟨h1, h2⟩ := List.nodup_cons.mp h
    refine List.pairwise_cons.mpr ⟨fun b hb => ?_, (idx_pw h2).imp_of_mem fun {a b} ha hb hab => ?_⟩
    · have hne : x ≠ b := fun e => h1 (by rw [e]; exact hb)
      rw [List.idxOf_cons_self, idx_ne hne]
      omega
    · have hne : x ≠ a := fun e => h1 (by rw [e]; exact ha)
      have hne' : x ≠ b := fun e => h1 (by rw [e]; exact hb)
      rw [idx_ne hne, idx_ne hne']
      omega
theorem asc_eq {r o : List Str} (hp : r.Perm o) (hn : o.Nodup) (h : r.Pairwise fun a b => o.idxOf a < o.idxOf b) : r = o :=
  List.Perm.eq_of_pairwise (fun x y _ _ h1 h2 => by omega) h (idx_pw hn) hp
theorem asc_pw {f : Str → Nat} : ∀ {r : List Str}, (∀ i a b, r[i]? = some a → r[i + 1]? = some b → f a < f b) → r.Pairwise fun a b => f a < f b
  | [], _ => .nil
  | [x], _ => List.pairwise_singleton _ _
  | x :: y :: t, h => by
    have ih := asc_pw (f := f) (r := y :: t) fun i a b ha hb => h (i + 1) a b ha hb
    have h0 := h 0 x y rfl rfl
    refine List.pairwise_cons.mpr ⟨fun b hb => ?_, ih⟩
    rcases List.mem_cons.mp hb with rfl | hb
    · exact h0
    · have := (List.pairwise_cons.mp ih).1 b hb
      omega
theorem idx_lt {o : List Str} (hn : o.Nodup) {x y : Str} (hx : x ∈ o) (h : o.idxOf y < o.idxOf x) {b : Str → Str → Bool} (hb : o.Pairwise fun u v => b v u = false) : b x y = false := by
  have hxl := List.idxOf_lt_length_iff.mpr hx
  have hyl : o.idxOf y < o.length := by omega
  have := List.pairwise_iff_getElem.mp hb (o.idxOf y) (o.idxOf x) hyl hxl h
  rwa [List.getElem_idxOf hxl, List.getElem_idxOf hyl] at this
theorem pw_swap {R : Str → Str → Prop} {x y : Str} {bs : List Str} : ∀ {as : List Str}, (as ++ x :: y :: bs).Pairwise R → R y x → (as ++ y :: x :: bs).Pairwise R
  | [], h, g => by
    obtain ⟨h1, h2⟩ := List.pairwise_cons.mp h
    obtain ⟨h3, h4⟩ := List.pairwise_cons.mp h2
    refine List.pairwise_cons.mpr ⟨fun z hz => ?_, List.pairwise_cons.mpr ⟨fun z hz => h1 z (List.mem_cons_of_mem _ hz), h4⟩⟩
    rcases List.mem_cons.mp hz with rfl | hz
    · exact g
    · exact h3 z hz
  | a :: as, h, g => by
    obtain ⟨h1, h2⟩ := List.pairwise_cons.mp h
    refine List.pairwise_cons.mpr ⟨fun z hz => h1 z ?_, pw_swap h2 g⟩
    have hz : z ∈ as ++ y :: x :: bs := hz
    show z ∈ as ++ x :: y :: bs
    simp only [List.mem_append, List.mem_cons] at hz ⊢
    rcases hz with h | h | h | h
    · exact .inl h
    · exact .inr (.inr (.inl h))
    · exact .inr (.inl h)
    · exact .inr (.inr (.inr h))
theorem ext_swap {b : Str → Str → Bool} {ns o as bs : List Str} {x y : Str} (hn : ns.Nodup) (h : as ++ x :: y :: bs ∈ ext b ns.length ns) (ho : o ∈ ext b ns.length ns) (hxy : o.idxOf y < o.idxOf x) : as ++ y :: x :: bs ∈ ext b ns.length ns := by
  obtain ⟨p1, q1, q2⟩ := (mem_ext _ _ _ _ hn rfl).mp h
  obtain ⟨p2, q3, q4⟩ := (mem_ext _ _ _ _ hn rfl).mp ho
  have hp : (as ++ y :: x :: bs).Perm (as ++ x :: y :: bs) := List.Perm.append_left as (List.Perm.swap x y bs)
  refine (mem_ext _ _ _ _ hn rfl).mpr ⟨hp.trans p1, fun u hu => q1 u (hp.mem_iff.mp hu), pw_swap q2 ?_⟩
  exact idx_lt (p2.nodup_iff.mpr hn) (p2.mem_iff.mpr (p1.mem_iff.mp (by simp))) hxy q4
noncomputable def Sw (a b : List Str) : Prop := ∃ as x y bs, a = as ++ x :: y :: bs ∧ b = as ++ y :: x :: bs ∧ x ≠ y
structure WayL (ns : List Str) (b : Str → Str → Bool) (one cur : List Str) (rows : List (List Str)) : Prop where
  fst : rows[0]? = some one
  lst : rows.getLast? = some cur
  all : ∀ r ∈ rows, r ∈ ext b ns.length ns
  sw : ∀ i r r', rows[i]? = some r → rows[i + 1]? = some r' → Sw r r'
theorem WayL.snoc {ns : List Str} {b : Str → Str → Bool} {one cur nw : List Str} {rows : List (List Str)} (h : WayL ns b one cur rows) (hn : nw ∈ ext b ns.length ns) (hs : Sw cur nw) : WayL ns b one nw (rows ++ [nw]) := by
  have h0 : 0 < rows.length := by
    cases e : rows with
    | nil => have := h.fst; rw [e] at this; cases this
    | cons _ _ => simp
  refine ⟨by rw [List.getElem?_append_left h0]; exact h.fst, by simp, fun r hr => ?_, fun i r r' h1 h2 => ?_⟩
  · rcases List.mem_append.mp hr with hr | hr
    · exact h.all r hr
    · rw [List.mem_singleton.mp hr]; exact hn
  · by_cases hi : i + 1 < rows.length
    · rw [List.getElem?_append_left (by omega)] at h1
      rw [List.getElem?_append_left hi] at h2
      exact h.sw i r r' h1 h2
    · have hl : i + 1 < (rows ++ [nw]).length := (List.getElem?_eq_some_iff.mp h2).1
      have hi' : i + 1 = rows.length := by simp at hl; omega
      rw [List.getElem?_append_left (by omega)] at h1
      rw [hi', List.getElem?_append_right (Nat.le_refl _), Nat.sub_self] at h2
      have e2 : nw = r' := Option.some.inj h2
      have e1 : rows.getLast? = rows[i]? := by rw [List.getLast?_eq_getElem?]; congr 1; omega
      rw [h.lst, h1] at e1
      rw [← Option.some.inj e1, ← e2]
      exact hs
theorem spots_two {n i : Nat} (p : Nat → Bool) (hi : i + 1 < n) (h : ∀ k, k < n → (p k = true ↔ k = i ∨ k = i + 1)) : (List.range n).filter p = [i, i + 1] := by
  refine List.Perm.eq_of_pairwise (le := (· < ·)) (fun a b _ _ h1 h2 => by omega) (List.Pairwise.filter _ List.pairwise_lt_range) (by simp) ?_
  refine (List.perm_ext_iff_of_nodup (List.nodup_range.filter _) (by simp)).mpr fun k => ?_
  simp only [List.mem_filter, List.mem_range, List.mem_cons, List.not_mem_nil, or_false]
  constructor
  · rintro ⟨h1, h2⟩
    exact (h k h1).mp h2
  · intro h1
    have hk : k < n := by rcases h1 with rfl | rfl <;> omega
    exact ⟨hk, (h k hk).mpr h1⟩
noncomputable def sp_swapped (K : PySem.W.Frag) : Sp := fun vs H Q _ => ∃ u as x y bs, vs = [u, .int ((as.length : Nat) : Int)] ∧ Is K H (nmD (as ++ x :: y :: bs)) u ∧ (as ++ x :: y :: bs).length ≤ 10 ∧ ∀ w H', Same H H' → Is K H' (nmD (as ++ y :: x :: bs)) w → Q w H'
theorem ok_swapped {f : Addr} {fd : FuncData} (F : Fun K "swapped" "swapped" s_swapped f fd) (T : TopF mg) : FnOk P w K mg base CX0 1 f fd ["order", "place"] (sp_swapped K) := by
  refine F.ok sc_swapped (fun vs H Q E h => ?_) (fun cdv A outer s H vs Q E hr h => ?_)
  · obtain ⟨u, as, x, y, bs, rfl, _⟩ := h
    rfl
  · obtain ⟨u, as, x, y, bs, rfl, hU, h10, k⟩ := h
    have hu := hu_of hr
    have hq := qa_of hr
    obtain ⟨a, rfl, hS⟩ := hU.nm
    have hlen : ((as ++ x :: y :: bs).map V.str).length = as.length + (bs.length + 2) := by simp
    simp only [List.length_append, List.length_cons] at h10
    have c1 : cutV ((as ++ x :: y :: bs).map V.str) none (some ((as.length : Nat) : Int)) = as.map V.str := by
      rw [cut_upto (by omega), ← List.map_take, Int.toNat_natCast, List.take_left]
    have c2 : cutV ((as ++ x :: y :: bs).map V.str) (some (((as.length : Nat) : Int) + 2)) none = bs.map V.str := by
      rw [cut_fromA (by omega), ← List.map_drop, show (((as.length : Nat) : Int) + 2).toNat = as.length + 2 by omega, ← List.drop_drop, List.drop_left]
      rfl
    have i1 : atI ((as ++ x :: y :: bs).map V.str) (((as.length : Nat) : Int) + 1) = some (.str y) := atI_nat (j := as.length + 1) (by simp)
    have i0 : atI ((as ++ x :: y :: bs).map V.str) (((as.length : Nat) : Int)) = some (.str x) := atI_nat (by simp)
    generalize (as ++ x :: y :: bs).map V.str = xs at *
    with_reducible refine ⟨_, (pss_one (ps_ret (pe_op (op_addK (K := K)) (pe_op (op_addK (K := K)) (pe_slice (sl_K (K := K)) (pv 0) po_none (po_some (pv 1))) (pe_tup (pa_cons (pe_ix (ix_anyK (K := K) hu) (pv 0) (pe_op (op_addK (K := K)) (pv 1) pe_int) (by with_unfolding_all exact fun _ _ => rfl)) (pa_cons (pe_ix (ix_anyK (K := K) hu) (pv 0) (pv 1) (by with_unfolding_all exact fun _ _ => rfl)) pa_nil)))) (pe_slice (sl_K (K := K)) (pv 0) (po_some (pe_op (op_addK (K := K)) (pv 1) pe_int)) po_none)))), ?_⟩
    walk_at "rd"
    refine i_slT hS fun p1 H1 e1 h1 => ?_
    rw [c1] at h1
    walk_at "rd"
    refine i_ixQ (e1.seqT hS) i1 ?_
    walk_at "rd"
    refine i_ixQ (e1.seqT hS) i0 ?_
    walk_at "rd"
    refine i_newT (line_of (by simp)) fun p2 H2 hp2 e2 h2 => ?_
    refine i_addT (e2.seqT h1) (SqT.of h2) (line_of (by simp; omega)) fun p3 H3 e3 h3 => ?_
    walk_at "rd"
    have e123 := (e1.trans e2).trans e3
    refine i_slT (e123.seqT hS) fun p4 H4 e4 h4 => ?_
    rw [c2] at h4
    refine i_addT (e4.seqT h3) h4 (line_of (by simp; omega)) fun p5 H5 e5 h5 => ?_
    walk_at "rd"
    refine k _ _ ((e123.trans e4).trans e5) (is_nm ?_)
    rw [List.map_append, List.map_cons, List.map_cons]
    rw [List.append_assoc] at h5
    exact h5
noncomputable def sp_step_towards (K : PySem.W.Frag) : Sp := fun vs H Q _ => ∃ u v r o, vs = [u, v] ∧ Is K H (nmD r) u ∧ Is K H (nmD o) v ∧ r.Perm o ∧ o.Nodup ∧ r ≠ o ∧ o.length ≤ 10 ∧ ∀ as x y bs w H', r = as ++ x :: y :: bs → o.idxOf y < o.idxOf x → Same H H' → Is K H' (nmD (as ++ y :: x :: bs)) w → Q w H'
theorem split_two {r : List Str} {i : Nat} {a b : Str} (h1 : r[i]? = some a) (h2 : r[i + 1]? = some b) : ∃ as bs, r = as ++ a :: b :: bs ∧ as.length = i := by
  obtain ⟨hl, hb⟩ := List.getElem?_eq_some_iff.mp h2
  obtain ⟨hl', ha⟩ := List.getElem?_eq_some_iff.mp h1
  refine ⟨r.take i, r.drop (i + 2), ?_, by rw [List.length_take]; omega⟩
  rw [← ha, ← hb, List.getElem_cons_drop, List.getElem_cons_drop, List.take_append_drop]
theorem ok_step_towards {f : Addr} {fd : FuncData} (F : Fun K "step_towards" "step_towards" s_step_towards f fd) (T : TopF mg) (c_swapped : Fnd P w K mg base 1 "swapped" ["order", "place"] (sp_swapped K)) : FnOk P w K mg base CX0 2 f fd ["order", "goal"] (sp_step_towards K) := by
  refine F.ok sc_step_towards (fun vs H Q E h => ?_) (fun cdv A outer s H vs Q E hr h => ?_)
  · obtain ⟨u, v, r, o, rfl, _⟩ := h
    rfl
  · obtain ⟨u, v, r, o, rfl, hU, hV, hp, hn, hne, h10, k⟩ := h
    have hu := hu_of hr
    have hq := qa_of hr
    obtain ⟨ua, rfl, hSu⟩ := hU.nm
    obtain ⟨va, rfl, hSv⟩ := hV.nm
    have hl := hp.length_eq
    have hlast : ∀ i, (∀ j a b, j < i → r[j]? = some a → r[j + 1]? = some b → o.idxOf a < o.idxOf b) → i + 1 < r.length := fun i hi => by
      by_cases hc : i + 1 < r.length
      · exact hc
      · exact absurd (asc_eq hp hn (asc_pw fun j a b ha hb => hi j a b (by have := (List.getElem?_eq_some_iff.mp hb).1; omega) ha hb)) hne
    with_reducible refine ⟨_, (pss_cons (ps_set (i := 2) sc_step_towards.nd (by with_unfolding_all rfl) (by with_unfolding_all exact Or.inl rfl) pe_int)
      (pss_cons (ps_while PassesOwn.never (pt_cmpR op_lt (pe_bmT (K := K) PySem.F.slot_tuple_index PySem.F.type_tuple_index (mt_indexTK (K := K)) (pv 1) (pa_cons (pe_ix (ix_anyK (K := K) hu) (pv 0) (pv 2) (by with_unfolding_all exact fun _ _ => rfl)) pa_nil)) (pe_bmT (K := K) PySem.F.slot_tuple_index PySem.F.type_tuple_index (mt_indexTK (K := K)) (pv 1) (pa_cons (pe_ix (ix_anyK (K := K) hu) (pv 0) (pe_op (op_addK (K := K)) (pv 2) pe_int) (by with_unfolding_all exact fun _ _ => rfl)) pa_nil)) (nomark _))
      (pss_one (ps_set (i := 2) sc_step_towards.nd (by with_unfolding_all rfl) (by with_unfolding_all exact Or.inl rfl) (pe_op (op_addK (K := K)) (pv 2) pe_int))))
      (pss_one (ps_ret (pe_fn c_swapped (hr.mono (by decide)) (by with_unfolding_all rfl) (pa_cons (pv 0) (pa_cons (pv 2) pa_nil))))))), ?_⟩
    walk_at "rd"
    refine i_while (fun m σ H1 => ∃ i : Nat, σ = [some (.ref ua), some (.ref va), some (.int (i : Int))] ∧ H1 = H ∧ i + m = r.length ∧ ∀ j a b, j < i → r[j]? = some a → r[j + 1]? = some b → o.idxOf a < o.idxOf b) r.length ⟨0, rfl, rfl, by omega, fun j _ _ hj => absurd hj (by omega)⟩ (fun m σ H1 hP => ?_)
    obtain ⟨i, rfl, rfl, him, hi⟩ := hP
    have hi1 := hlast i hi
    have g1 := List.getElem?_eq_getElem (show i < r.length by omega)
    have g2 := List.getElem?_eq_getElem hi1
    generalize r[i] = a at g1
    generalize r[i + 1] = b at g2
    obtain ⟨f1, f2, _⟩ := L2.idx_at (hp.mem_iff.mp (List.mem_of_getElem? g1))
    obtain ⟨f3, f4, _⟩ := L2.idx_at (hp.mem_iff.mp (List.mem_of_getElem? g2))
    walk_at "rd"
    refine i_tyT hSv ?_
    walk_at "rd"
    refine i_ixQ hSu (atI_nat (v := .str a) (by rw [List.getElem?_map, g1]; rfl)) ?_
    walk_at "rd"
    refine i_indexT hSv f1 f2 ?_
    walk_at "rd"
    refine i_tyT hSv ?_
    walk_at "rd"
    refine i_ixQ hSu (show atI _ ((i : Int) + 1) = some (.str b) from atI_nat (j := i + 1) (by rw [List.getElem?_map, g2]; rfl)) ?_
    walk_at "rd"
    refine i_indexT hSv f3 f4 ?_
    walk_at "rd"
    refine iteD (fun hc => ?_) (fun hc => ?_)
    · refine i_turn ?_
      walk_at "rd"
      refine ⟨m - 1, by omega, i + 1, rfl, rfl, by omega, fun j x y hj hx hy => ?_⟩
      by_cases e : j = i
      · subst e
        rw [g1] at hx
        rw [g2] at hy
        cases hx
        cases hy
        omega
      · exact hi j x y (by omega) hx hy
    · have hab : a ≠ b := fun e => by
        have hnr := hp.nodup_iff.mpr hn
        subst e
        have := (List.getElem?_inj (by omega) hnr).mp (g1.trans g2.symm)
        omega
      obtain ⟨as, bs, er, ea⟩ := split_two g1 g2
      have hlt : o.idxOf b < o.idxOf a := by
        have : o.idxOf a ≠ o.idxOf b := fun e => hab (by rw [← e, f1] at f3; exact Option.some.inj f3)
        omega
      walk_at "rd"
      refine ⟨.ref ua, as, a, b, bs, by rw [ea]; rfl, by rw [← er]; exact hU, by rw [← er]; omega, fun w H1 e1 hw => ?_⟩
      exact k as a b bs w H1 er hlt e1 hw
noncomputable def sp_way_between (K : PySem.W.Frag) : Sp := fun vs H Q _ => ∃ v u w ns ps one other, vs = [v, u, w] ∧ Is K H (hfD ns ps) v ∧ Half ns ps ∧ Is K H (nmD one) u ∧ one ∈ ext (wayB ps) ns.length ns ∧ Is K H (nmD other) w ∧ other ∈ ext (wayB ps) ns.length ns ∧
  ∀ rows z H', Same H H' → Is K H' (lsD rows) z → WayL ns (wayB ps) one other rows → rows.length = 1 + invN one other → Q z H'
theorem invR_le (o : List Str) : ∀ r : List Str, invR o r ≤ r.length * r.length
  | [] => by simp [invR]
  | x :: t => by
    have ih := invR_le o t
    have := List.length_filter_le (fun y => decide (o.idxOf y < o.idxOf x)) t
    simp only [invR, List.length_cons, Nat.add_mul, Nat.mul_add]
    omega
theorem ok_way_between {f : Addr} {fd : FuncData} (F : Fun K "way_between" "way_between" s_way_between f fd) (T : TopF mg) (c_refuse_no_order : Fnd P w K mg base 2 "refuse_no_order" ["half", "thing"] (sp_refuse_no_order K)) (c_step_towards : Fnd P w K mg base 2 "step_towards" ["order", "goal"] (sp_step_towards K)) : FnOk P w K mg base CX0 3 f fd ["half", "one", "other"] (sp_way_between K) := by
  refine F.ok sc_way_between (fun vs H Q E h => ?_) (fun cdv A outer s H vs Q E hr h => ?_)
  · obtain ⟨v, u, w, ns, ps, one, other, rfl, _⟩ := h
    rfl
  · obtain ⟨v, u, w, ns, ps, one, other, rfl, hI, hH, hU, h1, hV, h2, k⟩ := h
    have hu := hu_of hr
    have hq := qa_of hr
    obtain ⟨g1, o1⟩ := ord_th hU hH h1
    obtain ⟨g2, o2⟩ := ord_th hV hH h2
    have hnd := hH.names.1
    have hpm : ∀ {r}, r ∈ ext (wayB ps) ns.length ns → r.Perm ns := fun {r} h => ((mem_ext _ _ _ _ hnd rfl).mp h).1
    have h10 := hH.few
    have hsh : ∀ {r}, r ∈ ext (wayB ps) ns.length ns → SeqAt.shaped (nmD r) = true := fun {r} h => (fine_nm (fun z hz => hH.names.2 z ((hpm h).mem_iff.mp hz)) (by rw [(hpm h).length_eq]; omega)).shaped
    have hm : invN one other ≤ 100 := by
      rw [inv_rec]
      refine Nat.le_trans (invR_le other one) ?_
      rw [(hpm h1).length_eq]
      exact Nat.mul_le_mul h10 h10
    with_reducible refine ⟨_, (pss_cons (ps_expr (pe_fn c_refuse_no_order (hr.mono (by decide)) (by with_unfolding_all rfl) (pa_cons (pv 0) (pa_cons (pv 1) pa_nil))))
      (pss_cons (ps_expr (pe_fn c_refuse_no_order (hr.mono (by decide)) (by with_unfolding_all rfl) (pa_cons (pv 0) (pa_cons (pv 2) pa_nil))))
      (pss_cons (ps_set (i := 3) sc_way_between.nd (by with_unfolding_all rfl) (by with_unfolding_all exact Or.inl rfl) (pe_lst (pa_cons (pv 1) pa_nil)))
      (pss_cons (ps_while PassesOwn.never (pt_cmpR (op_neK (K := K) hq) (pe_ix (ix_anyK (K := K) hu) (pv 3) (pe_un un_neg pe_int) (by with_unfolding_all exact fun _ _ => rfl)) (pv 2) (nomark _))
      (pss_one (ps_expr (pe_bmK (K := K) PySem.F.plainAttrs_list PySem.F.slot_list_append PySem.F.type_list_append (mm mt_append) (pv 3) (pa_cons (pe_fn c_step_towards (hr.mono (by decide)) (by with_unfolding_all rfl) (pa_cons (pe_ix (ix_anyK (K := K) hu) (pv 3) (pe_un un_neg pe_int) (by with_unfolding_all exact fun _ _ => rfl)) (pa_cons (pv 2) pa_nil))) pa_nil)))))
      (pss_one (ps_ret (pe_callTy (call_tupleK (K := K)) (by with_unfolding_all rfl) T.b_tuple PyProof.Rows.Boot.«tuple» (pa_cons (pv 3) pa_nil)))))))), ?_⟩
    walk_at "rd"
    refine ⟨v, u, ns, ps, _, rfl, hI, hH, g1, o1, fun H1 e1 => ?_⟩
    walk_at "rd"
    refine ⟨v, w, ns, ps, _, rfl, hI.hf_fz e1.fz, hH, g2.same e1, o2, fun H2 e2 => ?_⟩
    have e12 := e1.trans e2
    walk_at "rd"
    refine i_newL (line_of (by simp)) fun p H3 hp3 e3 h3 => ?_
    have hp0 : H p = none := e12.free hp3
    walk_at "rd"
    refine i_while (fun m σ H4 => ∃ rows ys cur, σ = [some v, some u, some w, some (.ref p)] ∧ Same H H4 ∧ H4 p = some (.lst ys) ∧ IsL K H4 (rows.map nmD) ys ∧ WayL ns (wayB ps) one cur rows ∧ m = invN cur other ∧ rows.length + m = 1 + invN one other) (invN one other)
      ⟨[one], [u], one, rfl, e12.trans e3, h3, .one (hU.nm_fz (e12.trans e3).fz), ⟨rfl, rfl, fun r hr => by rw [List.mem_singleton.mp hr]; exact h1, fun i r r' _ h => by cases i <;> cases h⟩, rfl, by simp⟩ (fun m σ H4 hP => ?_)
    obtain ⟨rows, ys, cur, rfl, e4, h4, hL4, hW, rfl, hrl⟩ := hP
    have hyl : ys.length = rows.length := by rw [← IsL.length hL4, List.length_map]
    have hcur : cur ∈ ext (wayB ps) ns.length ns := hW.all cur (List.mem_of_getLast? hW.lst)
    have hpos : 0 < rows.length := by
      cases e : rows with
      | nil => have := hW.fst; rw [e] at this; cases this
      | cons _ _ => simp
    obtain ⟨y, hy⟩ : ∃ y, ys[ys.length - 1]? = some y := ⟨ys[ys.length - 1]'(by omega), List.getElem?_eq_getElem (by omega)⟩
    have hyI : Is K H4 (nmD cur) y := by
      obtain ⟨dd, hdd, hIy⟩ := IsL.get hL4 hy
      rw [List.getElem?_map, hyl, ← List.getLast?_eq_getElem?, hW.lst] at hdd
      cases hdd
      exact hIy
    have hat : atI ys (-1) = some y := by
      unfold atI
      have e : ixN ys.length (-1) = some (ys.length - 1) := by
        unfold ixN
        rw [if_neg (by omega), if_pos (by omega)]
        congr 1
        omega
      rw [e, Option.bind_some, hy]
    walk_at "rd"
    refine i_ixL h4 hat ?_
    walk_at "rd"
    refine i_neD hyI (hV.nm_fz e4.fz) (hsh hcur) (hsh h2) ?_
    rw [eqv_nm]
    walk_at "rd"
    refine iteND (fun hc => ?_) (fun hc => ?_)
    · refine i_turn ?_
      walk_at "rd"
      refine i_ixL h4 hat ?_
      walk_at "rd"
      refine ⟨y, w, cur, other, rfl, hyI, hV.nm_fz e4.fz, (hpm hcur).trans (hpm h2).symm, (hpm h2).nodup_iff.mpr hnd, hc, by rw [(hpm h2).length_eq]; exact h10, fun as x z bs nw H5 er hlt e5 hnw => ?_⟩
      have h5 := e5 _ _ h4
      walk_at "rd"
      refine i_appR h5 (by omega) fun H6 e6 h6 => ?_
      walk_at "rd"
      have hnx : as ++ z :: x :: bs ∈ ext (wayB ps) ns.length ns := ext_swap hnd (er ▸ hcur) h2 hlt
      have hxz : x ≠ z := fun e => by subst e; omega
      have hin := inv_swap (bs := bs) hlt as
      rw [← er, ← inv_rec, ← inv_rec] at hin
      refine ⟨invN (as ++ z :: x :: bs) other, by omega, rows ++ [as ++ z :: x :: bs], ys ++ [nw], as ++ z :: x :: bs, rfl, (e4.trans e5).off hp0 e6, h6, ?_, hW.snoc hnx ⟨as, x, z, bs, er, rfl, hxz⟩, rfl, by rw [List.length_append, List.length_singleton]; omega⟩
      rw [List.map_append]
      have hfz := (e6.fzL h5)
      exact IsL.append (IsL.fz (e5.fz.trans hfz) _ _ (frzL_map _ (fun _ => frz_nm _) _) hL4) (.one (hnw.nm_fz hfz))
    · have hc : cur = other := hc
      subst hc
      have h0 : invN cur cur = 0 := by rw [inv_rec]; exact inv_self (idx_pw ((hpm h2).nodup_iff.mpr hnd))
      walk_at "rd"
      refine i_tupLs h4 hL4 fun z H5 e5 hz => ?_
      walk_at "rd"
      exact k rows z H5 (e4.trans e5) hz hW (by omega)
theorem okx_way_between {f : Addr} {fd : FuncData} (F : Fun K "way_between" "way_between" s_way_between f fd) (T : TopF mg) {C_HalfError : Addr} {C_NoName : Addr} {C_NoOrder : Addr} (x_HalfError : Xls_HalfError K mg C_HalfError C_HalfError) (x_NoName : Xls_NoName K mg C_NoName C_HalfError) (x_NoOrder : Xls_NoOrder K mg C_NoOrder C_HalfError) (c_step_towards : Fnd P w K mg base 2 "step_towards" ["order", "goal"] (sp_step_towards K)) (d_refuse_no_order : Fnd1 P w K mg base 2 "refuse_no_order" ["half", "thing"] (spx_refuse_no_order C_NoOrder K)) : FnOk P w K mg base (CX1 P w) 3 f fd ["half", "one", "other"] (spx_way_between C_NoOrder K) := by
  refine F.ok1 sc_way_between (fun vs H Q E h => ?_) (fun cdv A outer s H vs Q E hr h => ?_)
  · obtain ⟨v, u, w, ns, ps, g, g', rfl, _⟩ := h
    rfl
  · obtain ⟨v, u, w, ns, ps, g, g', rfl, hI, hH, hg, hg', hno, kn⟩ := h
    have hu := hu_of hr
    have hq := qa_of hr
    with_reducible refine ⟨_, (pss_cons (ps_expr (pe_fn1 d_refuse_no_order (hr.mono (by decide)) (by with_unfolding_all rfl) pass1' (pa_cons (pv 0) (pa_cons (pv 1) pa_nil))))
      (pss_cons (ps_expr (pe_fn1 d_refuse_no_order (hr.mono (by decide)) (by with_unfolding_all rfl) pass1' (pa_cons (pv 0) (pa_cons (pv 2) pa_nil))))
      (pss_cons (ps_set (i := 3) sc_way_between.nd (by with_unfolding_all rfl) (by with_unfolding_all exact Or.inl rfl) (pe_lst (pa_cons (pv 1) pa_nil)))
      (pss_cons (ps_while PassesOwn.leaving (pt_cmpR (op_neK (K := K) hq) (pe_ix (ix_anyK (K := K) hu) (pv 3) (pe_un un_neg pe_int) (by with_unfolding_all exact fun _ _ => rfl)) (pv 2) (nomark _))
      (pss_one (ps_expr (pe_bmK (K := K) PySem.F.plainAttrs_list PySem.F.slot_list_append PySem.F.type_list_append (mm mt_append) (pv 3) (pa_cons (pe_fn c_step_towards (hr.mono (by decide)) (by with_unfolding_all rfl) (pa_cons (pe_ix (ix_anyK (K := K) hu) (pv 3) (pe_un un_neg pe_int) (by with_unfolding_all exact fun _ _ => rfl)) (pa_cons (pv 2) pa_nil))) pa_nil)))))
      (pss_one (ps_ret (pe_callTy (call_tupleK (K := K)) (by with_unfolding_all rfl) T.b_tuple PyProof.Rows.Boot.«tuple» (pa_cons (pv 3) pa_nil)))))))), ?_⟩
    walk_at "rd"
    refine ⟨v, u, ns, ps, g, rfl, hI, hH, hg, fun h1 H1 e1 => ?_, fun h1 => kn⟩
    walk_at "rd"
    exact ⟨v, w, ns, ps, g', rfl, hI.hf_fz e1.fz, hH, hg'.same e1, fun h2 => absurd ⟨h1, h2⟩ hno, fun h2 => kn.mono e1⟩
noncomputable def sp__law_is_swap (K : PySem.W.Frag) : Sp := fun vs H Q _ => ∃ u w a b, vs = [u, w] ∧ Is K H (nmD a) u ∧ Is K H (nmD b) w ∧ Sw a b ∧ a.length ≤ 10 ∧ ∀ H', Same H H' → Q (.bl true) H'
noncomputable def spP (a b : List Str) (k : Nat) : Bool := !decide (a.getD k "" = b.getD k "")
theorem sp_spots {as bs : List Str} {x y : Str} (h : x ≠ y) : (List.range (as ++ x :: y :: bs).length).filter (spP (as ++ x :: y :: bs) (as ++ y :: x :: bs)) = [as.length, as.length + 1] := by
  refine spots_two _ (by simp) fun k hk => ?_
  unfold spP
  rw [Bool.not_eq_true', decide_eq_false_iff_not]
  by_cases h1 : k < as.length
  · rw [List.getD_eq_getElem?_getD, List.getD_eq_getElem?_getD, List.getElem?_append_left h1, List.getElem?_append_left h1]
    simp
    omega
  · obtain ⟨j, rfl⟩ := Nat.exists_eq_add_of_le (Nat.le_of_not_lt h1)
    rw [List.getD_eq_getElem?_getD, List.getD_eq_getElem?_getD, List.getElem?_append_right (by omega), List.getElem?_append_right (by omega), Nat.add_sub_cancel_left]
    match j with
    | 0 => simpa using h
    | 1 => simpa using Ne.symm h
    | j + 2 => simp
theorem ok__law_is_swap {f : Addr} {fd : FuncData} (F : Fun K "_law_is_swap" "_law_is_swap" s__law_is_swap f fd) (T : TopF mg) : FnOk P w K mg base CX0 1 f fd ["_law_one", "_law_other"] (sp__law_is_swap K) := by
  refine F.ok sc__law_is_swap (fun vs H Q E h => ?_) (fun cdv A outer s H vs Q E hr h => ?_)
  · obtain ⟨u, w, a, b, rfl, _⟩ := h
    rfl
  · obtain ⟨u, w, a, b, rfl, hU, hV, ⟨as, x, y, bs, ea, eb, hxy⟩, h10, k⟩ := h
    have hu := hu_of hr
    have hq := qa_of hr
    have hsp := sp_spots (as := as) (bs := bs) hxy
    rw [← ea, ← eb] at hsp
    have hl : b.length = a.length := by rw [ea, eb]; simp
    have a0 : a[as.length]? = some x := by rw [ea]; simp
    have a1 : a[as.length + 1]? = some y := by rw [ea]; simp
    have b0 : b[as.length]? = some y := by rw [eb]; simp
    have b1 : b[as.length + 1]? = some x := by rw [eb]; simp
    with_reducible refine ⟨_, (pss_cons (ps_setcomp (i := 2) ["_law_k"] ["_law_one", "_law_other"] [0, 1] (by with_unfolding_all rfl) (by with_unfolding_all rfl) (by with_unfolding_all rfl) sc__law_is_swap.nd (by with_unfolding_all rfl) (by with_unfolding_all rfl) (pi_range1 (by with_unfolding_all rfl) T.b_range (pa_cons (pe_callB (call_lenK (K := K)) (by with_unfolding_all rfl) T.b_len PyProof.Rows.Boot.«len» (pa_cons (pv 0) pa_nil)) pa_nil)) (fun _ _ _ _ => (pg_name (i := 0) (by with_unfolding_all (show (["_law_k", "_law_one", "_law_other"] : List Str).Nodup; decide +kernel)) (by with_unfolding_all rfl) (by with_unfolding_all exact Or.inl rfl))) (gk_name (by decide)) (fun _ _ _ _ => (pif_one (pt_cmpR (op_neK (K := K) hq) (pe_ix (ix_anyK (K := K) hu) (pv 1) (pv 0) (by with_unfolding_all exact fun _ _ => rfl)) (pe_ix (ix_anyK (K := K) hu) (pv 2) (pv 0) (by with_unfolding_all exact fun _ _ => rfl)) (nomark _)))) (fun _ _ _ _ => (pv 0)))
      (pss_cons (ps_if (PW.pt (pw_or (pt_cmpR (op_neK (K := K) hq) (pe_callB (call_lenK (K := K)) (by with_unfolding_all rfl) T.b_len PyProof.Rows.Boot.«len» (pa_cons (pv 2) pa_nil)) pe_int (nomark _)) (pw_or1 (pt_cmpR (op_neK (K := K) hq) (pe_ix (ix_anyK (K := K) hu) (pv 2) pe_int (by with_unfolding_all exact fun _ _ => rfl)) (pe_op (op_addK (K := K)) (pe_ix (ix_anyK (K := K) hu) (pv 2) pe_int (by with_unfolding_all exact fun _ _ => rfl)) pe_int) (nomark _))))) (pss_one (ps_ret pe_bl)) pss_nil)
      (pss_one (ps_ret (pe_and (pe_cmpR (op_eqK (K := K) hq) (pe_ix (ix_anyK (K := K) hu) (pv 0) (pe_ix (ix_anyK (K := K) hu) (pv 2) pe_int (by with_unfolding_all exact fun _ _ => rfl)) (by with_unfolding_all exact fun _ _ => rfl)) (pe_ix (ix_anyK (K := K) hu) (pv 1) (pe_ix (ix_anyK (K := K) hu) (pv 2) pe_int (by with_unfolding_all exact fun _ _ => rfl)) (by with_unfolding_all exact fun _ _ => rfl)) (nomark _)) (pe_one (pe_cmpR (op_eqK (K := K) hq) (pe_ix (ix_anyK (K := K) hu) (pv 0) (pe_ix (ix_anyK (K := K) hu) (pv 2) pe_int (by with_unfolding_all exact fun _ _ => rfl)) (by with_unfolding_all exact fun _ _ => rfl)) (pe_ix (ix_anyK (K := K) hu) (pv 1) (pe_ix (ix_anyK (K := K) hu) (pv 2) pe_int (by with_unfolding_all exact fun _ _ => rfl)) (by with_unfolding_all exact fun _ _ => rfl)) (nomark _)))))))), ?_⟩
    walk_at "rd"
    refine i_lenN hU ?_
    walk_at "rd"
    refine i_rngv (by omega) ?_
    refine comp_by walk_range (fun q i acc H1 => Same H H1 ∧ acc = ((List.range i).filter (spP a b)).map fun k : Nat => V.int ((k : Nat) : Int)) (fun q H' hq' e' h' => ⟨e', rfl⟩) (fun _ _ _ _ _ => trivial) (fun q i z acc H1 hq' hz hi hl' hqa hP => ?_) (fun q acc H1 hq' hqa hal hP => ?_)
    · obtain ⟨e1, rfl⟩ := hP
      obtain ⟨rfl, hi2⟩ := rng_get hz
      have hi3 : i < a.length := by simpa using hi2
      have g1 := List.getElem?_eq_getElem hi3
      have g2 := List.getElem?_eq_getElem (show i < b.length by omega)
      have hpp : spP a b i = !decide (a[i] = b[i]) := by
        unfold spP
        rw [List.getD_eq_getElem?_getD, List.getD_eq_getElem?_getD, g1, g2]
        rfl
      generalize a[i] = z1 at g1 hpp
      generalize b[i] = z2 at g2 hpp
      walk_at "rd"
      refine i_ixN (hU.nm_fz e1.fz) (show atI a (0 + (i : Int)) = some z1 by rw [Int.zero_add]; exact atI_nat g1) ?_
      walk_at "rd"
      refine i_ixN (hV.nm_fz e1.fz) (show atI b (0 + (i : Int)) = some z2 by rw [Int.zero_add]; exact atI_nat g2) ?_
      walk_at "rd"
      refine iteND (fun hc => ?_) (fun hc => ?_)
      · have hc : z1 ≠ z2 := fun e => hc (by rw [e])
        have hp : spP a b i = true := by rw [hpp, decide_eq_false hc]; rfl
        walk_at "rd"
        refine push_i (by simp; omega) hi hl' hqa fun H2 e2 h2 => ⟨e1.off hq' e2, ?_⟩
        rw [List.range_succ, List.filter_append, List.map_append, show [i].filter (spP a b) = [i] by simp [hp], Int.zero_add]
        rfl
      · have hc : z1 = z2 := V.str.inj hc
        have hp : spP a b i = false := by rw [hpp, decide_eq_true hc]; rfl
        refine cn_skip hi hl' hqa ⟨e1, ?_⟩
        rw [List.range_succ, List.filter_append, List.map_append, show [i].filter (spP a b) = [] by simp [hp], List.map_nil, List.append_nil]
    · obtain ⟨e1, e2⟩ := hP
      have hln : (List.map (fun i : Nat => V.int (0 + (i : Int))) (List.range ((a.length : Int)).toNat)).length = a.length := by simp
      rw [hln, hsp] at e2
      subst e2
      have q0 : atI [V.int ((as.length : Nat) : Int), V.int ((as.length + 1 : Nat) : Int)] 0 = some (.int ((as.length : Nat) : Int)) := rfl
      have q1 : atI [V.int ((as.length : Nat) : Int), V.int ((as.length + 1 : Nat) : Int)] 1 = some (.int ((as.length + 1 : Nat) : Int)) := rfl
      have hU1 := hU.nm_fz e1.fz
      have hV1 := hV.nm_fz e1.fz
      walk_at "rd"
      refine iteND (fun hc => absurd rfl hc) (fun _ => ?_)
      walk_at "rd"
      refine i_ixL hqa q1 ?_
      walk_at "rd"
      refine i_ixL hqa q0 ?_
      walk_at "rd"
      refine iteND (fun hc => absurd rfl hc) (fun _ => ?_)
      walk_at "rd"
      refine i_ixL hqa q0 ?_
      walk_at "rd"
      refine i_ixN hU1 (atI_nat a0) ?_
      walk_at "rd"
      refine i_ixL hqa q1 ?_
      walk_at "rd"
      refine i_ixN hV1 (atI_nat b1) ?_
      walk_at "rd"
      refine i_ixL hqa q1 ?_
      walk_at "rd"
      refine i_ixN hU1 (atI_nat a1) ?_
      walk_at "rd"
      refine i_ixL hqa q0 ?_
      walk_at "rd"
      refine i_ixN hV1 (atI_nat b0) ?_
      walk_at "rd"
      have ed : decide (V.str y = V.str y) = true := decide_eq_true rfl
      rw [ed]
      exact k H1 e1
noncomputable def sp__law_way_right (K : PySem.W.Frag) : Sp := fun vs H Q _ => ∃ v r as u w ns ps one other, vs = [v, .ref r, u, w] ∧ Is K H (hfD ns ps) v ∧ Half ns ps ∧ TabL K H r ns as (Way ps) ∧ Is K H (nmD one) u ∧ one ∈ ext (wayB ps) ns.length ns ∧ Is K H (nmD other) w ∧ other ∈ ext (wayB ps) ns.length ns ∧ ∀ H', Same H H' → Q (.bl true) H'
theorem ok__law_way_right {f : Addr} {fd : FuncData} (F : Fun K "_law_way_right" "_law_way_right" s__law_way_right f fd) (T : TopF mg) (c_way_between : Fnd P w K mg base 3 "way_between" ["half", "one", "other"] (sp_way_between K)) (c__law_is_order : Fnd P w K mg base 1 "_law_is_order" ["_law_half_here", "_law_over_here", "_law_thing"] (sp__law_is_order K)) (c__law_apart : Fnd P w K mg base 1 "_law_apart" ["_law_one", "_law_other"] (sp__law_apart K)) (c__law_is_swap : Fnd P w K mg base 1 "_law_is_swap" ["_law_one", "_law_other"] (sp__law_is_swap K)) : FnOk P w K mg base CX0 4 f fd ["_law_half_here", "_law_over_here", "_law_one", "_law_other"] (sp__law_way_right K) := by
  refine F.ok sc__law_way_right (fun vs H Q E h => ?_) (fun cdv A outer s H vs Q E hr h => ?_)
  · obtain ⟨v, r, as, u, w, ns, ps, one, other, rfl, _⟩ := h
    rfl
  · obtain ⟨v, r, as, u, w, ns, ps, one, other, rfl, hI, hH, hT, hU, h1, hV, h2, k⟩ := h
    have hu := hu_of hr
    have hq := qa_of hr
    have hnd := hH.names.1
    have hpm : ∀ {r}, r ∈ ext (wayB ps) ns.length ns → r.Perm ns := fun {r} h => ((mem_ext _ _ _ _ hnd rfl).mp h).1
    have h10 := hH.few
    have hsh : ∀ {r}, r ∈ ext (wayB ps) ns.length ns → SeqAt.shaped (nmD r) = true := fun {r} h => (fine_nm (fun z hz => hH.names.2 z ((hpm h).mem_iff.mp hz)) (by rw [(hpm h).length_eq]; omega)).shaped
    with_reducible refine ⟨_, (pss_cons (ps_set (i := 4) sc__law_way_right.nd (by with_unfolding_all rfl) (by with_unfolding_all exact Or.inr rfl) (pe_fn c_way_between (hr.mono (by decide)) (by with_unfolding_all rfl) (pa_cons (pv 0) (pa_cons (pv 2) (pa_cons (pv 3) pa_nil)))))
      (pss_cons (ps_if (PW.pt (pw_or (pt_not (pt_val (pe_callB (call_isinstK (K := K)) (by with_unfolding_all rfl) T.b_isinstance PyProof.Rows.Boot.«isinstance» (pa_cons (pv 4) (pa_cons (pe_bltn (v := .ty "tuple") (by with_unfolding_all rfl) T.b_tuple PyProof.Rows.Boot.«tuple» (by with_unfolding_all rfl)) pa_nil))))) (pw_or1 (pt_cmpR (op_neK (K := K) hq) (pe_callB (call_lenK (K := K)) (by with_unfolding_all rfl) T.b_len PyProof.Rows.Boot.«len» (pa_cons (pv 4) pa_nil)) (pe_op (op_addK (K := K)) pe_int (pe_fn c__law_apart (hr.mono (by decide)) (by with_unfolding_all rfl) (pa_cons (pv 2) (pa_cons (pv 3) pa_nil)))) (nomark _))))) (pss_one (ps_ret pe_bl)) pss_nil)
      (pss_cons (ps_if (PW.pt (pw_or (pt_cmpR (op_neK (K := K) hq) (pe_ix (ix_anyK (K := K) hu) (pv 4) pe_int (by with_unfolding_all exact fun _ _ => rfl)) (pv 2) (nomark _)) (pw_or1 (pt_cmpR (op_neK (K := K) hq) (pe_ix (ix_anyK (K := K) hu) (pv 4) (pe_op op_sub (pe_callB (call_lenK (K := K)) (by with_unfolding_all rfl) T.b_len PyProof.Rows.Boot.«len» (pa_cons (pv 4) pa_nil)) pe_int) (by with_unfolding_all exact fun _ _ => rfl)) (pv 3) (nomark _))))) (pss_one (ps_ret pe_bl)) pss_nil)
      (pss_cons (ps_if (pt_cmpR (op_inK (K := K) hq) pe_bl (pe_comp ["_law_order"] ["_law_half_here", "_law_over_here"] [0, 1] (by with_unfolding_all rfl) (by with_unfolding_all rfl) (by with_unfolding_all rfl) (pi_anyK (K := K) hu (pv 4)) (fun _ _ _ _ => (pg_name (i := 0) (by with_unfolding_all (show (["_law_order", "_law_half_here", "_law_over_here"] : List Str).Nodup; decide +kernel)) (by with_unfolding_all rfl) (by with_unfolding_all exact Or.inl rfl))) (gk_name (by decide)) (fun _ _ _ _ => pif_nil) (fun _ _ _ _ => (pe_fn c__law_is_order (hr.mono (by decide)) (by with_unfolding_all rfl) (pa_cons (pv 1) (pa_cons (pv 2) (pa_cons (pv 0) pa_nil)))))) (by with_unfolding_all rfl)) (pss_one (ps_ret pe_bl)) pss_nil)
      (pss_one (ps_ret (pe_cmpR (op_notInK (K := K) hq) pe_bl (pe_comp ["_law_k"] ["_law_found"] [4] (by with_unfolding_all rfl) (by with_unfolding_all rfl) (by with_unfolding_all rfl) (pi_range1 (by with_unfolding_all rfl) T.b_range (pa_cons (pe_op op_sub (pe_callB (call_lenK (K := K)) (by with_unfolding_all rfl) T.b_len PyProof.Rows.Boot.«len» (pa_cons (pv 4) pa_nil)) pe_int) pa_nil)) (fun _ _ _ _ => (pg_name (i := 0) (by with_unfolding_all (show (["_law_k", "_law_found"] : List Str).Nodup; decide +kernel)) (by with_unfolding_all rfl) (by with_unfolding_all exact Or.inl rfl))) (gk_name (by decide)) (fun _ _ _ _ => pif_nil) (fun _ _ _ _ => (pe_fn c__law_is_swap (hr.mono (by decide)) (by with_unfolding_all rfl) (pa_cons (pe_ix (ix_anyK (K := K) hu) (pv 1) (pv 0) (by with_unfolding_all exact fun _ _ => rfl)) (pa_cons (pe_ix (ix_anyK (K := K) hu) (pv 1) (pe_op (op_addK (K := K)) (pv 0) pe_int) (by with_unfolding_all exact fun _ _ => rfl)) pa_nil))))) (by with_unfolding_all rfl)))))))), ?_⟩
    walk_at "rd"
    refine ⟨v, u, w, ns, ps, one, other, rfl, hI, hH, hU, h1, hV, h2, fun rows z H1 e1 hz hW hrl => ?_⟩
    have hm : invN one other ≤ 100 := by
      rw [inv_rec]
      refine Nat.le_trans (invR_le other one) ?_
      rw [(hpm h1).length_eq]
      exact Nat.mul_le_mul h10 h10
    obtain ⟨za, xs, rfl, hSz, hLz⟩ := hz.tup
    have hxl : xs.length = rows.length := by rw [← IsL.length hLz, List.length_map]
    have hpos : 0 < rows.length := by omega
    have hr0 : ∃ y0, xs[0]? = some y0 ∧ Is K H1 (nmD one) y0 := by
      refine ⟨xs[0]'(by omega), List.getElem?_eq_getElem (by omega), ?_⟩
      obtain ⟨dd, hdd, hIy⟩ := IsL.get hLz (List.getElem?_eq_getElem (show 0 < xs.length by omega))
      rw [List.getElem?_map, hW.fst] at hdd
      cases hdd
      exact hIy
    have hr1 : ∃ y1, xs[xs.length - 1]? = some y1 ∧ Is K H1 (nmD other) y1 := by
      refine ⟨xs[xs.length - 1]'(by omega), List.getElem?_eq_getElem (by omega), ?_⟩
      obtain ⟨dd, hdd, hIy⟩ := IsL.get hLz (List.getElem?_eq_getElem (show xs.length - 1 < xs.length by omega))
      rw [List.getElem?_map, hxl, ← List.getLast?_eq_getElem?, hW.lst] at hdd
      cases hdd
      exact hIy
    obtain ⟨y0, g0, hy0⟩ := hr0
    obtain ⟨y1, g1, hy1⟩ := hr1
    have hgt : ∀ H', Same H1 H' → ∀ i y, xs[i]? = some y → ∃ r, rows[i]? = some r ∧ Is K H' (nmD r) y := fun H' e i y hy => by
      obtain ⟨dd, hdd, hIy⟩ := IsL.get hLz hy
      rw [List.getElem?_map] at hdd
      cases hro : rows[i]? with
      | none => rw [hro] at hdd; cases hdd
      | some r => rw [hro] at hdd; cases hdd; exact ⟨r, hro, hIy.nm_fz e.fz⟩
    have ps1 := hpm h1
    have ps2 := hpm h2
    walk_at "rd"
    refine i_isiT hSz (b := true) (by rfl) ⟨true, rfl, ?_⟩
    walk_at "rd"
    refine i_lenSq hSz ?_
    walk_at "rd"
    refine ⟨u, w, one, other, rfl, hU.nm_fz e1.fz, hV.nm_fz e1.fz, fun x hx => ps2.mem_iff.mpr (ps1.mem_iff.mp hx), by rw [ps1.length_eq]; omega, by rw [ps2.length_eq]; omega, fun H2 e2 => ?_⟩
    have hSz2 := e2.seqT hSz
    walk_at "rd"
    refine iteND (fun hc => absurd (by rw [hxl, hrl]; congr 1) hc) (fun _ => ?_)
    walk_at "rd"
    refine i_ixQ hSz2 (show atI xs 0 = some y0 from atI_nat g0) ?_
    walk_at "rd"
    refine i_neD (hy0.nm_fz e2.fz) (hU.nm_fz (e1.trans e2).fz) (hsh h1) (hsh h1) ?_
    rw [eqv_nm, decide_eq_true rfl]
    walk_at "rd"
    refine i_lenSq hSz2 ?_
    walk_at "rd"
    refine i_ixQ hSz2 (show atI xs ((xs.length : Int) - 1) = some y1 by
      have := atI_nat g1
      rwa [show ((xs.length - 1 : Nat) : Int) = (xs.length : Int) - 1 by omega] at this) ?_
    walk_at "rd"
    refine i_neD (hy1.nm_fz e2.fz) (hV.nm_fz (e1.trans e2).fz) (hsh h2) (hsh h2) ?_
    rw [eqv_nm, decide_eq_true rfl]
    walk_at "rd"
    refine i_itT hSz2 ?_
    refine comp_by (walk_tup (xs := xs)) (fun q i acc H3 => Same H2 H3 ∧ acc = (List.replicate i true).map V.bl) (fun q H' hq' e' h' => ⟨e', rfl⟩) (fun q i acc H3 hP => hP.1.seqT hSz2) (fun q i y acc H3 hq' hy hi hl hqa hP => ?_) (fun q acc H3 hq' hqa hal hP => ?_)
    · obtain ⟨e3, rfl⟩ := hP
      have e13 := e2.trans e3
      obtain ⟨r', hr', hIr⟩ := hgt H3 e13 i y hy
      have hre := hW.all r' (List.mem_of_getElem? hr')
      obtain ⟨t1, t2⟩ := ord_th hIr hH hre
      walk_at "rd"
      refine ⟨v, y, r, as, ns, ps, _, rfl, hI.hf_fz (e1.trans e13).fz, hH, hT.same (e1.trans e13), t1, fun b H4 e4 hb => ?_⟩
      obtain rfl := hb.mpr t2
      walk_at "rd"
      refine push_i (by omega) hi hl (e4 _ _ hqa) fun H5 e5 h5 => ⟨(e3.trans e4).off hq' e5, ?_⟩
      rw [List.replicate_succ', List.map_append]
      rfl
    · obtain ⟨e3, rfl⟩ := hP
      walk_at "rd"
      refine i_inBF (SqL.of hqa) ?_
      rw [show (List.replicate xs.length true).all id = true by simp]
      walk_at "rd"
      refine i_lenSq (e3.seqT hSz2) ?_
      walk_at "rd"
      refine i_rngv (by omega) ?_
      refine comp_by walk_range (fun q i acc H4 => Same H3 H4 ∧ acc = (List.replicate i true).map V.bl) (fun q H' hq' e' h' => ⟨e', rfl⟩) (fun _ _ _ _ _ => trivial) (fun q i y acc H4 hq' hy hi hl hqa hP => ?_) (fun q acc H4 hq' hqa hal hP => ?_)
      · obtain ⟨e4, rfl⟩ := hP
        obtain ⟨rfl, hi2⟩ := rng_get hy
        have hi3 : i + 1 < xs.length := by
          have : i < ((xs.length : Int) - 1).toNat := by simpa using hi2
          omega
        have e14 := (e2.trans e3).trans e4
        have k1 := List.getElem?_eq_getElem (show i < xs.length by omega)
        have k2 := List.getElem?_eq_getElem hi3
        generalize xs[i] = z1 at k1
        generalize xs[i + 1] = z2 at k2
        obtain ⟨r1, hr1, hI1⟩ := hgt H4 e14 i z1 k1
        obtain ⟨r2, hr2, hI2⟩ := hgt H4 e14 (i + 1) z2 k2
        have hSz4 := e4.seqT (e3.seqT hSz2)
        have hl1 := (hpm (hW.all r1 (List.mem_of_getElem? hr1))).length_eq
        walk_at "rd"
        refine i_ixQ hSz4 (show atI xs (0 + (i : Int)) = some z1 by rw [Int.zero_add]; exact atI_nat k1) ?_
        walk_at "rd"
        refine i_ixQ hSz4 (show atI xs (0 + (i : Int) + 1) = some z2 by rw [Int.zero_add]; exact atI_nat (j := i + 1) k2) ?_
        walk_at "rd"
        refine ⟨z1, z2, r1, r2, rfl, hI1, hI2, hW.sw i r1 r2 hr1 hr2, by omega, fun H5 e5 => ?_⟩
        walk_at "rd"
        refine push_i (by simp; omega) hi hl (e5 _ _ hqa) fun H6 e6 h6 => ⟨(e4.trans e5).off hq' e6, ?_⟩
        rw [List.replicate_succ', List.map_append]
        rfl
      · obtain ⟨e4, rfl⟩ := hP
        walk_at "rd"
        refine i_ninBF (SqL.of hqa) ?_
        rw [show (List.replicate _ true).all id = true by simp]
        exact k H4 (((e1.trans e2).trans e3).trans e4)
local macro_rules | `(tactic| walk_at "rq1") => L2.mAlts "i_nxS"
noncomputable def sp__law_refused (K : PySem.W.Frag) : Sp := fun vs H Q _ => ∃ (z : Str) (v u w : V) (ns : List Str) (ps : List (Str × Str)) (g g' : Tg), vs = [.str z, v, u, w] ∧ Is K H (hfD ns ps) v ∧ Half ns ps ∧ ThM K H u g ∧ ThM K H w g' ∧ ¬ (OrdG ns ps g ∧ OrdG ns ps g') ∧ ∀ H', Same H H' → Q (.bl true) H'
theorem mro_up {K : PySem.W.Frag} {C B : Addr} (hm : xcMro K C B = true) : PySem.W.mroIn K C (.ref B) = some true := by
  obtain ⟨cd, hc, hx⟩ := PySem.W.any_some hm
  unfold PySem.W.mroIn
  rw [hc, Option.bind_some, beq_iff_eq.mp hx, if_neg (by simp), List.contains_cons, List.contains_cons, beq_self_eq_true, Bool.true_or, Bool.or_true]
theorem len6 {σ : L2.St} (h : σ.length = 6) : ∃ a b c d e f, σ = [a, b, c, d, e, f] := by
  match σ, h with
  | [a, b, c, d, e, f], _ => exact ⟨a, b, c, d, e, f, rfl⟩
theorem ok__law_refused {f : Addr} {fd : FuncData} (F : Fun K "_law_refused" "_law_refused" s__law_refused f fd) (T : TopF mg) {C_HalfError : Addr} {C_NoName : Addr} {C_TooMany : Addr} {C_NoPlace : Addr} {C_NoOrder : Addr} (x_HalfError : Xls_HalfError K mg C_HalfError C_HalfError) (x_NoName : Xls_NoName K mg C_NoName C_HalfError) (x_TooMany : Xls_TooMany K mg C_TooMany C_HalfError) (x_NoPlace : Xls_NoPlace K mg C_NoPlace C_HalfError) (x_NoOrder : Xls_NoOrder K mg C_NoOrder C_HalfError) (ndX : ([C_HalfError, C_NoName, C_NoOrder, C_NoPlace, C_TooMany] : List Addr).Nodup) (d_apart : Fnd1 P w K mg base 3 "apart" ["half", "one", "other"] (spx_apart C_NoOrder K)) (d_way_between : Fnd1 P w K mg base 3 "way_between" ["half", "one", "other"] (spx_way_between C_NoOrder K)) : FnOk P w K mg base CX0 4 f fd ["_law_word", "_law_half_here", "_law_one", "_law_other"] (sp__law_refused K) := by
  refine F.ok sc__law_refused (fun vs H Q E h => ?_) (fun cdv A outer s H vs Q E hr h => ?_)
  · obtain ⟨z, v, u, w, ns, ps, g, g', rfl, _⟩ := h
    rfl
  · obtain ⟨z, v, u, w, ns, ps, g, g', rfl, hI, hH, hg, hg', hno, k⟩ := h
    have hu := hu_of hr
    have hq := qa_of hr
    obtain ⟨xG, hG⟩ : ∃ G : Addr → Hp → Prop, G = fun a H' => Same H H' ∧ ExB false H' a C_NoOrder [] := ⟨_, rfl⟩
    with_reducible refine ⟨_, (pss_cons (ps_set (i := 4) sc__law_refused.nd (by with_unfolding_all rfl) (by with_unfolding_all exact Or.inl rfl) (pe_lst pa_nil))
      (pss_cons (ps_try (i := 5) xG sc__law_refused.nd (by with_unfolding_all rfl) (by with_unfolding_all rfl) (by with_unfolding_all rfl) x_HalfError.gl x_HalfError.xc (by with_unfolding_all rfl) (by with_unfolding_all rfl) (by with_unfolding_all rfl) (fun _ _ hps => (pss_one (ps_if (pt_cmpR (op_eqK (K := K) hq) (pv 0) pe_str (nomark _)) (pss_one (ps_expr (pe_fn1 d_apart (hr.mono (by decide)) (by with_unfolding_all rfl) hps (pa_cons (pv 1) (pa_cons (pv 2) (pa_cons (pv 3) pa_nil)))))) (pss_one (ps_expr (pe_fn1 d_way_between (hr.mono (by decide)) (by with_unfolding_all rfl) hps (pa_cons (pv 1) (pa_cons (pv 2) (pa_cons (pv 3) pa_nil)))))))))
      (fun _ _ => (pss_cons (ps_set (i := 4) sc__law_refused.nd (by with_unfolding_all rfl) (by with_unfolding_all exact Or.inl rfl) (pe_lst (pa_cons (pe_callB (call_isXK (K := K)) (by with_unfolding_all rfl) T.b_isinstance PyProof.Rows.Boot.«isinstance» (pa_cons (pv 5) (pa_cons (pe_gl (v := .ref C_NoOrder) (by with_unfolding_all rfl) ⟨_, x_NoOrder.gl, (by with_unfolding_all rfl)⟩) pa_nil))) (pa_cons (pe_callB (call_isXK (K := K)) (by with_unfolding_all rfl) T.b_isinstance PyProof.Rows.Boot.«isinstance» (pa_cons (pv 5) (pa_cons (pe_bltn (v := .ty "ValueError") (by with_unfolding_all rfl) T.b_ValueError PyProof.Rows.Boot.«ValueError» (by with_unfolding_all rfl)) pa_nil))) (pa_cons (pe_callB (call_isXK (K := K)) (by with_unfolding_all rfl) T.b_isinstance PyProof.Rows.Boot.«isinstance» (pa_cons (pv 5) (pa_cons (pe_gl (v := .ref C_NoName) (by with_unfolding_all rfl) ⟨_, x_NoName.gl, (by with_unfolding_all rfl)⟩) pa_nil))) (pa_cons (pe_callB (call_isXK (K := K)) (by with_unfolding_all rfl) T.b_isinstance PyProof.Rows.Boot.«isinstance» (pa_cons (pv 5) (pa_cons (pe_gl (v := .ref C_NoPlace) (by with_unfolding_all rfl) ⟨_, x_NoPlace.gl, (by with_unfolding_all rfl)⟩) pa_nil))) pa_nil))))))
      (pss_one (ps_expr (pe_bmK (K := K) PySem.F.plainAttrs_list PySem.F.slot_list_append PySem.F.type_list_append (mm mt_append) (pv 4) (pa_cons (pe_callB (call_isXK (K := K)) (by with_unfolding_all rfl) T.b_isinstance PyProof.Rows.Boot.«isinstance» (pa_cons (pv 5) (pa_cons (pe_gl (v := .ref C_TooMany) (by with_unfolding_all rfl) ⟨_, x_TooMany.gl, (by with_unfolding_all rfl)⟩) pa_nil))) pa_nil)))))))
      (pss_one (ps_ret (pe_cmpR (op_eqK (K := K) hq) (pv 4) (pe_lst (pa_cons pe_bl (pa_cons pe_bl (pa_cons pe_bl (pa_cons pe_bl (pa_cons pe_bl pa_nil)))))) (nomark _)))))), ?_⟩
    walk_at "rd"
    refine i_newL (line_of (by simp)) fun p H1 hp1 e1 h1 => ?_
    walk_at "rd"
    refine ⟨?_, fun a H' σ' hl hg => ?_⟩
    · have kn : RefN H1 C_NoOrder (tryE xG) := fun a H' e hE => ⟨a, rfl, by rw [hG]; exact ⟨e1.trans e, hE⟩⟩
      walk_at "rd"
      refine iteD (fun _ => ?_) (fun _ => ?_)
      · walk_at "rd"
        exact ⟨v, u, w, ns, ps, g, g', rfl, hI.hf_fz e1.fz, hH, hg.same e1, hg'.same e1, hno, kn⟩
      · walk_at "rd"
        exact ⟨v, u, w, ns, ps, g, g', rfl, hI.hf_fz e1.fz, hH, hg.same e1, hg'.same e1, hno, kn⟩
    · rw [hG] at hg
      obtain ⟨e1, hE⟩ := hg
      obtain ⟨y0, y1, y2, y3, y4, y5, rfl⟩ := len6 hl
      obtain ⟨od, ha⟩ : ∃ od, H' a = some (exG false a C_NoOrder od) := by
        rcases hE with ⟨_, h1⟩ | ⟨dx, _, h1, _⟩
        · exact ⟨none, h1⟩
        · exact ⟨some dx, h1⟩
      refine ⟨⟨C_NoOrder, od, ha, x_NoOrder.xc, mro_up x_NoOrder.mr⟩, ?_⟩
      have n1 : C_NoOrder ≠ C_NoName := fun e => by subst e; simp at ndX
      have n2 : C_NoOrder ≠ C_NoPlace := fun e => by subst e; simp at ndX
      have n3 : C_NoOrder ≠ C_TooMany := fun e => by subst e; simp at ndX
      have m1 : C_NoName ≠ C_HalfError := fun e => by subst e; simp at ndX
      have m2 : C_NoPlace ≠ C_HalfError := fun e => by subst e; simp at ndX
      have m3 : C_TooMany ≠ C_HalfError := fun e => by subst e; simp at ndX
      walk_at "rd"
      refine i_isX hE x_NoOrder.xc (show _ = some true by rw [xc_kitR x_NoOrder.xc x_NoOrder.mr x_NoOrder.xc, beq_self_eq_true, Bool.true_or]) ?_
      walk_at "rd"
      refine i_isXT hE x_NoOrder.xc (xc_kitM x_NoOrder.mr) ?_
      walk_at "rd"
      refine i_isX hE x_NoOrder.xc (show _ = some false by rw [xc_kitR x_NoOrder.xc x_NoOrder.mr x_NoName.xc, beq_eq_false_iff_ne.mpr n1, beq_eq_false_iff_ne.mpr m1, Bool.or_self]) ?_
      walk_at "rd"
      refine i_isX hE x_NoOrder.xc (show _ = some false by rw [xc_kitR x_NoOrder.xc x_NoOrder.mr x_NoPlace.xc, beq_eq_false_iff_ne.mpr n2, beq_eq_false_iff_ne.mpr m2, Bool.or_self]) ?_
      walk_at "rd"
      refine i_newL (line_of (by simp)) fun p2 H2 hp2 e2 h2 => ?_
      walk_at "rd"
      refine i_isX (hE.same e2) x_NoOrder.xc (show _ = some false by rw [xc_kitR x_NoOrder.xc x_NoOrder.mr x_TooMany.xc, beq_eq_false_iff_ne.mpr n3, beq_eq_false_iff_ne.mpr m3, Bool.or_self]) ?_
      walk_at "rd"
      refine i_appR h2 (by simp) fun H3 e3 h3 => ?_
      walk_at "rd"
      refine i_newL (line_of (by simp)) fun p4 H4 hp4 e4 h4 => ?_
      walk_at "rd"
      have five : IsL K H4 [.bool true, .bool true, .bool false, .bool false, .bool false] [.bl true, .bl true, .bl false, .bl false, .bl false] := .cons is_bl (.cons is_bl (.cons is_bl (.cons is_bl (.one is_bl))))
      refine i_eqD (Is.of_lst (SqL.of (e4 _ _ h3)) five) (Is.of_lst (SqL.of h4) five) (by decide +kernel) (by decide +kernel) ?_
      rw [show PyData.eqv (.list [.bool true, .bool true, .bool false, .bool false, .bool false]) (.list [.bool true, .bool true, .bool false, .bool false, .bool false]) = true by decide +kernel]
      exact k H4 (((e1.trans e2).off (e1.free hp2) e3).trans e4)
noncomputable def spLaw (K : PySem.W.Frag) : Sp := fun vs H Q _ => ∃ (a : Addr) (ns : List Int), vs = [.ref a] ∧ SqL K H a (ns.map V.int) ∧ ns.length ≤ 63 ∧ ∀ H', Q (.bl true) H'
theorem q4_half {ns : List Str} {ps : List (Str × Str)} (hH : Half ns ps) : Q4 3 1400 (hfD ns ps) := by
  have hle := hH.le
  have hfew := hH.few
  have a := q4_tup (k := 0) (w := 9) (n := 10) (ds := ns.map PyData.str) (fun e he => by
    obtain ⟨z, hz, rfl⟩ := List.mem_map.mp he
    exact q4_nm (hH.names.2 z hz)) (by rw [List.length_map]; exact hfew)
  have b := q4_tup (k := 1) (w := 20) (n := 60) (ds := ps.map prD) (fun e he => by
    obtain ⟨p, hp, rfl⟩ := List.mem_map.mp he
    have := hH.nmP p hp
    exact q4_tup (k := 0) (w := 9) (n := 2) (fun e he => by
      rcases List.mem_cons.mp he with rfl | he
      · exact q4_nm this.1
      · rw [List.mem_singleton.mp he]; exact q4_nm this.2) (by simp)) (by rw [List.length_map]; exact hle)
  obtain ⟨a1, a2, a3, a4⟩ := a
  obtain ⟨b1, b2, b3, b4⟩ := b
  have e1 : PyData.showableAll [PyData.tuple (ns.map PyData.str), PyData.tuple (ps.map prD)] = true := by simp only [PyData.showableAll, a1, b1, Bool.and_self]
  have e2 : PyData.leavesShortAll 13 [PyData.tuple (ns.map PyData.str), PyData.tuple (ps.map prD)] = true := by simp only [PyData.leavesShortAll, a2, b2, Bool.and_self]
  refine ⟨by simpa only [hfD, nmD, psD, PyData.showable] using e1, by simpa only [hfD, nmD, psD, PyData.leavesShort] using e2, ?_, ?_⟩
  · simp only [hfD, nmD, psD, PyData.depth, PyData.depthAll] at a3 b3 ⊢
    omega
  · simp only [hfD, nmD, psD, PyData.weight, PyData.weightAll] at a4 b4 ⊢
    omega
theorem q4_row {ns r : List Str} {ps : List (Str × Str)} (hH : Half ns ps) (hr : r ∈ ext (wayB ps) ns.length ns) : Q4 1 700 (nmD r) := by
  have hp := ((mem_ext _ _ _ _ hH.names.1 rfl).mp hr).1
  have := hH.few
  exact (q4_tup (k := 0) (w := 9) (n := 12) (ds := r.map PyData.str) (fun e he => by
    obtain ⟨z, hz, rfl⟩ := List.mem_map.mp he
    exact q4_nm (hH.names.2 z (hp.mem_iff.mp hz))) (by rw [List.length_map, hp.length_eq]; omega)).le (by decide) (by decide)
theorem three_fd {ns one two : List Str} {ps : List (Str × Str)} (hH : Half ns ps) (h1 : one ∈ ext (wayB ps) ns.length ns) (h2 : two ∈ ext (wayB ps) ns.length ns) : Fd (.tuple [hfD ns ps, nmD one, nmD two]) := by
  obtain ⟨a1, a2, a3, a4⟩ := q4_half hH
  obtain ⟨b1, b2, b3, b4⟩ := q4_row hH h1
  obtain ⟨c1, c2, c3, c4⟩ := q4_row hH h2
  exact fd_tup (by simp only [PyData.showableAll, a1, b1, c1, Bool.and_self]) (by simp only [PyData.leavesShortAll, a2, b2, c2, Bool.and_self]) (by simp only [PyData.depthAll]; omega) (by simp only [PyData.weightAll]; omega)
theorem ok_law {f : Addr} {fd : FuncData} (F : Fun K "law" "law" s_law f fd) (T : TopF mg) (c_apart : Fnd P w K mg base 3 "apart" ["half", "one", "other"] (sp_apart K)) (c__law_feed : Fnd P w K mg base 1 "_law_feed" ["_law_script"] (sp__law_feed K)) (c__law_draw : Fnd P w K mg base 1 "_law_draw" ["_law_feed_here", "_law_many"] (sp__law_draw K)) (c__law_half : Fnd P w K mg base 4 "_law_half" ["_law_feed_here", "_law_many"] (sp__law_half K)) (c__law_over : Fnd P w K mg base 1 "_law_over" ["_law_half_here"] (sp__law_over K)) (c__law_an_order : Fnd P w K mg base 2 "_law_an_order" ["_law_feed_here", "_law_half_here", "_law_over_here"] (sp__law_an_order K)) (c__law_is_order : Fnd P w K mg base 1 "_law_is_order" ["_law_half_here", "_law_over_here", "_law_thing"] (sp__law_is_order K)) (c__law_bent : Fnd P w K mg base 2 "_law_bent" ["_law_feed_here", "_law_half_here", "_law_order"] (sp__law_bent K)) (c__law_apart : Fnd P w K mg base 1 "_law_apart" ["_law_one", "_law_other"] (sp__law_apart K)) (c__law_way_right : Fnd P w K mg base 4 "_law_way_right" ["_law_half_here", "_law_over_here", "_law_one", "_law_other"] (sp__law_way_right K)) (c__law_refused : Fnd P w K mg base 4 "_law_refused" ["_law_word", "_law_half_here", "_law_one", "_law_other"] (sp__law_refused K)) : FnOk P w K mg base CX0 5 f fd ["_law_script"] (spLaw K) := by
  refine F.ok sc_law (fun vs H Q E h => ?_) (fun cdv A outer s H vs Q E hr h => ?_)
  · obtain ⟨a, ns, rfl, _⟩ := h
    rfl
  · obtain ⟨a, ns, rfl, hS, h63, k⟩ := h
    have hu := hu_of hr
    have hq := qa_of hr
    with_reducible refine ⟨_, (pss_cons (ps_set (i := 1) sc_law.nd (by with_unfolding_all rfl) (by with_unfolding_all exact Or.inl rfl) (pe_fn c__law_feed (hr.mono (by decide)) (by with_unfolding_all rfl) (pa_cons (pv 0) pa_nil)))
      (pss_cons (ps_for PassesOwn.never (by with_unfolding_all rfl) (pi_range1 (by with_unfolding_all rfl) T.b_range (pa_cons pe_int pa_nil)) (pg_name (i := 2) sc_law.nd (by with_unfolding_all rfl) (by with_unfolding_all exact Or.inl rfl))
      (pss_cons (ps_set (i := 3) sc_law.nd (by with_unfolding_all rfl) (by with_unfolding_all exact Or.inl rfl) (pe_fn c__law_half (hr.mono (by decide)) (by with_unfolding_all rfl) (pa_cons (pv 1) (pa_cons (pe_fn c__law_draw (hr.mono (by decide)) (by with_unfolding_all rfl) (pa_cons (pv 1) (pa_cons pe_int pa_nil))) pa_nil))))
      (pss_cons (ps_set (i := 4) sc_law.nd (by with_unfolding_all rfl) (by with_unfolding_all exact Or.inl rfl) (pe_fn c__law_over (hr.mono (by decide)) (by with_unfolding_all rfl) (pa_cons (pv 3) pa_nil)))
      (pss_cons (ps_set (i := 5) sc_law.nd (by with_unfolding_all rfl) (by with_unfolding_all exact Or.inl rfl) (pe_fn c__law_an_order (hr.mono (by decide)) (by with_unfolding_all rfl) (pa_cons (pv 1) (pa_cons (pv 3) (pa_cons (pv 4) pa_nil)))))
      (pss_cons (ps_set (i := 6) sc_law.nd (by with_unfolding_all rfl) (by with_unfolding_all exact Or.inl rfl) (pe_ix (ix_anyK (K := K) hu) (pe_lst (pa_cons (pe_fn c__law_an_order (hr.mono (by decide)) (by with_unfolding_all rfl) (pa_cons (pv 1) (pa_cons (pv 3) (pa_cons (pv 4) pa_nil)))) (pa_cons (pv 5) pa_nil))) (pe_callTy call_intA (by with_unfolding_all rfl) T.b_int PyProof.Rows.Boot.«int» (pa_cons (pe_cmpR (op_eqK (K := K) hq) (pe_fn c__law_draw (hr.mono (by decide)) (by with_unfolding_all rfl) (pa_cons (pv 1) (pa_cons pe_int pa_nil))) pe_int (nomark _)) pa_nil)) (by with_unfolding_all exact fun _ _ => rfl)))
      (pss_cons (ps_set (i := 7) sc_law.nd (by with_unfolding_all rfl) (by with_unfolding_all exact Or.inl rfl) (pe_callB (call_reprK (K := K) hq) (by with_unfolding_all rfl) T.b_repr PyProof.Rows.Boot.«repr» (pa_cons (pe_tup (pa_cons (pv 3) (pa_cons (pv 5) (pa_cons (pv 6) pa_nil)))) pa_nil)))
      (pss_cons (ps_if (PW.pt (pw_or (pt_cmpR (op_neK (K := K) hq) (pe_callB call_reprI (by with_unfolding_all rfl) T.b_repr PyProof.Rows.Boot.«repr» (pa_cons (pe_fn c_apart (hr.mono (by decide)) (by with_unfolding_all rfl) (pa_cons (pv 3) (pa_cons (pv 5) (pa_cons (pv 6) pa_nil)))) pa_nil)) (pe_callB call_reprI (by with_unfolding_all rfl) T.b_repr PyProof.Rows.Boot.«repr» (pa_cons (pe_fn c__law_apart (hr.mono (by decide)) (by with_unfolding_all rfl) (pa_cons (pv 5) (pa_cons (pv 6) pa_nil))) pa_nil)) (nomark _)) (pw_or1 (pt_not (pt_val (pe_fn c__law_way_right (hr.mono (by decide)) (by with_unfolding_all rfl) (pa_cons (pv 3) (pa_cons (pv 4) (pa_cons (pv 5) (pa_cons (pv 6) pa_nil)))))))))) (pss_one (ps_ret pe_bl)) pss_nil)
      (pss_cons (ps_for PassesOwn.never (by with_unfolding_all rfl) (pi_range1 (by with_unfolding_all rfl) T.b_range (pa_cons pe_int pa_nil)) (pg_name (i := 8) sc_law.nd (by with_unfolding_all rfl) (by with_unfolding_all exact Or.inl rfl))
      (pss_cons (ps_set (i := 9) sc_law.nd (by with_unfolding_all rfl) (by with_unfolding_all exact Or.inl rfl) (pe_fn c__law_bent (hr.mono (by decide)) (by with_unfolding_all rfl) (pa_cons (pv 1) (pa_cons (pv 3) (pa_cons (pv 5) pa_nil)))))
      (pss_one (ps_if (pt_not (pt_val (pe_fn c__law_is_order (hr.mono (by decide)) (by with_unfolding_all rfl) (pa_cons (pv 3) (pa_cons (pv 4) (pa_cons (pv 9) pa_nil)))))) (pss_cons (ps_set (i := 10) sc_law.nd (by with_unfolding_all rfl) (by with_unfolding_all exact Or.inl rfl) (pe_lst (pa_cons (pe_fn c__law_refused (hr.mono (by decide)) (by with_unfolding_all rfl) (pa_cons pe_str (pa_cons (pv 3) (pa_cons (pv 9) (pa_cons (pv 6) pa_nil))))) (pa_cons (pe_fn c__law_refused (hr.mono (by decide)) (by with_unfolding_all rfl) (pa_cons pe_str (pa_cons (pv 3) (pa_cons (pv 6) (pa_cons (pv 9) pa_nil))))) pa_nil))))
      (pss_cons (ps_set (i := 10) sc_law.nd (by with_unfolding_all rfl) (by with_unfolding_all exact Or.inl rfl) (pe_op (op_addK (K := K)) (pv 10) (pe_lst (pa_cons (pe_fn c__law_refused (hr.mono (by decide)) (by with_unfolding_all rfl) (pa_cons pe_str (pa_cons (pv 3) (pa_cons (pv 9) (pa_cons (pv 6) pa_nil))))) (pa_cons (pe_fn c__law_refused (hr.mono (by decide)) (by with_unfolding_all rfl) (pa_cons pe_str (pa_cons (pv 3) (pa_cons (pv 6) (pa_cons (pv 9) pa_nil))))) pa_nil)))))
      (pss_one (ps_if (pt_cmpR (op_inK (K := K) hq) pe_bl (pv 10) (by with_unfolding_all rfl)) (pss_one (ps_ret pe_bl)) pss_nil)))) pss_nil))))
      (pss_one (ps_if (pt_cmpR (op_neK (K := K) hq) (pe_callB (call_reprK (K := K) hq) (by with_unfolding_all rfl) T.b_repr PyProof.Rows.Boot.«repr» (pa_cons (pe_tup (pa_cons (pv 3) (pa_cons (pv 5) (pa_cons (pv 6) pa_nil)))) pa_nil)) (pv 7) (nomark _)) (pss_one (ps_ret pe_bl)) pss_nil))))))))))
      (pss_one (ps_ret pe_bl)))), ?_⟩
    walk_at "rd"
    refine ⟨a, ns, rfl, hS, h63, fun d l H1 hd hl e1 hF => ?_⟩
    walk_at "rd"
    refine i_rngv (by omega) ?_
    refine for_by walk_range (fun i σ H2 => ∃ x2 x3 x4 x5 x6 x7 x8 x9 x10, σ = [some (.ref a), some (.ref d), x2, x3, x4, x5, x6, x7, x8, x9, x10] ∧ Feed H2 d l) ⟨_, _, _, _, _, _, _, _, _, rfl, hF⟩ (fun _ _ _ _ => trivial) (fun i x σ H2 hx hi hP => ?_) (fun σ H2 hP => ?_)
    · obtain ⟨x2, x3, x4, x5, x6, x7, x8, x9, x10, rfl, hF2⟩ := hP
      walk_at "rd"
      refine ⟨d, l, _, rfl, hF2, by omega, by omega, fun u H3 hu0 hu1 e3 hF3 => ?_⟩
      walk_at "rd"
      refine ⟨d, l, _, rfl, hF3, by omega, by omega, fun v n s H4 e4 hF4 hI4 hH hl4 => ?_⟩
      have hW := hH.w
      have h10 := hH.few
      walk_at "rd"
      refine ⟨v, n, s, rfl, hI4, hW, h10, hH.ok4, fun r as H5 hr5 e5 hT5 => ?_⟩
      have hF5 := hF4.same e5
      have hrd : r ≠ d := Ne.symm (hF4.nd hr5)
      walk_at "rd"
      refine ⟨d, l, v, r, as, n, s, rfl, hF5, hI4.hf_fz e5.fz, hH, hT5, hrd, fun o one H6 e6 hF6 hT6 hO6 hone => ?_⟩
      have hI6 := (hI4.hf_fz e5.fz).hf_fz (hF5.fz e6)
      walk_at "rd"
      refine ⟨d, l, v, r, as, n, s, rfl, hF6, hI6, hH, hT6, hrd, fun o2 two H7 e7 hF7 hT7 hO7 htwo => ?_⟩
      walk_at "rd"
      refine i_newL (line_of (by simp)) fun q8 H8 hq8 e8 h8 => ?_
      have hF8 := hF7.same e8
      walk_at "rd"
      refine ⟨d, l, 6, rfl, hF8, by omega, by omega, fun t H9 ht0 ht1 e9 hF9 => ?_⟩
      have h9 := e9 _ _ (hF8.lst h8) h8
      have fz79 : Fz H7 H9 := e8.fz.trans (hF8.fz e9)
      have hI9 := (hI6.hf_fz (hF6.fz e7)).hf_fz fz79
      have hO9 := (hO6.nm_fz (hF6.fz e7)).nm_fz fz79
      have hT9 := tab_feed (hT7.same e8) hF8 hrd e9
      obtain ⟨w, row, hat, hw9, hrow⟩ : ∃ w row, atI [o2, o] (if decide (V.int t = V.int 0) = true then 1 else 0) = some w ∧ Is K H9 (nmD row) w ∧ row ∈ ext (wayB s) n.length n := by
        by_cases ht : V.int t = V.int 0
        · exact ⟨o, one, by rw [decide_eq_true ht]; rfl, hO9, hone⟩
        · exact ⟨o2, two, by rw [decide_eq_false ht]; rfl, hO7.nm_fz fz79, htwo⟩
      walk_at "rd"
      refine i_ixL h9 hat ?_
      have f3 := three_fd hH hone hrow
      have f3d := f3.dp
      walk_at "rd"
      refine i_newT (line_of (by simp)) fun t10 H10 ht10 e10 h10' => ?_
      walk_at "rd"
      refine i_repr (Is.of_tup (SqT.of h10') (.cons (hI9.hf_fz e10.fz) (.cons (hO9.nm_fz e10.fz) (.one (hw9.nm_fz e10.fz))))) ⟨rfl, f3.sh, f3.fits, by omega⟩ ?_
      have hF10 := hF9.same e10
      have hI10 := hI9.hf_fz e10.fz
      have hO10 := hO9.nm_fz e10.fz
      have hw10 := hw9.nm_fz e10.fz
      have hT10 := hT9.same e10
      have p1 := ((mem_ext _ _ _ _ hH.names.1 rfl).mp hone).1
      have p2 := ((mem_ext _ _ _ _ hH.names.1 rfl).mp hrow).1
      walk_at "rd"
      refine ⟨v, o, w, n, s, one, row, rfl, hI10, hH, hO10, hone, hw10, hrow, fun H11 e11 => ?_⟩
      walk_at "rd"
      have hm : invN one row ≤ 3628800 := by
        rw [inv_rec]
        refine Nat.le_trans (invR_le row one) ?_
        rw [p1.length_eq]
        exact Nat.le_trans (Nat.mul_le_mul h10 h10) (by decide)
      refine i_reprI hm ?_
      walk_at "rd"
      refine ⟨o, w, one, row, rfl, hO10.nm_fz e11.fz, hw10.nm_fz e11.fz, fun z hz => p2.mem_iff.mpr (p1.mem_iff.mp hz), by rw [p1.length_eq]; exact h10, by rw [p2.length_eq]; exact h10, fun H12 e12 => ?_⟩
      have e1012 := e11.trans e12
      walk_at "rd"
      refine i_reprI hm ?_
      walk_at "rd"
      refine ⟨v, r, as, o, w, n, s, one, row, rfl, hI10.hf_fz e1012.fz, hH, hT10.same e1012, hO10.nm_fz e1012.fz, hone, hw10.nm_fz e1012.fz, hrow, fun H13 e13 => ?_⟩
      have e1013 := e1012.trans e13
      have hF13 := hF10.same e1013
      have hI13 := hI10.hf_fz e1013.fz
      have hO13 := hO10.nm_fz e1013.fz
      have hw13 := hw10.nm_fz e1013.fz
      have hT13 := hT10.same e1013
      have hrn : ∀ z ∈ one, isNm z = true := fun z hz => hH.names.2 z (p1.mem_iff.mp hz)
      have hrl : one.length ≤ 10 := by rw [p1.length_eq]; exact h10
      have hrdn : one.Nodup := p1.nodup_iff.mpr hH.names.1
      walk_at "rd"
      refine i_rngv (by omega) ?_
      refine for_by walk_range (fun j σ H14 => ∃ x8 x9 x10, σ = [some (.ref a), some (.ref d), some x, some v, some (.ref r), some o, some w, some (.str (PyData.tuple [hfD n s, nmD one, nmD row]).shown), x8, x9, x10] ∧ ExtBut d H13 H14 ∧ Feed H14 d l) ⟨_, _, _, rfl, .refl, hF13⟩ (fun _ _ _ _ => trivial) (fun j y σ H14 hy hj hP => ?_) (fun σ H14 hP => ?_)
      · obtain ⟨x8, x9, x10, rfl, e14, hF14⟩ := hP
        have fz14 := hF13.fz e14
        walk_at "rd"
        refine ⟨d, l, v, o, n, s, one, rfl, hF14, hI13.hf_fz fz14, hH, hO13.nm_fz fz14, hrn, hrdn, hrl, fun th H15 e15 hF15 hTh => ?_⟩
        have e1315 := e14.trans e15
        have fz15 := hF13.fz e1315
        have hI15 := hI13.hf_fz fz15
        have hw15 := hw13.nm_fz fz15
        have hT15 := tab_feed hT13 hF13 hrd e1315
        obtain ⟨g, hg⟩ := thing_th hTh
        obtain ⟨g', og⟩ := ord_th hw15 hH hrow
        walk_at "rd"
        refine ⟨v, th, r, as, n, s, g, rfl, hI15, hH, hT15, hg, fun b H16 e16 hb => ?_⟩
        have hF16 := hF15.same e16
        cases b with
        | true =>
          walk_at "rd"
          exact ⟨_, _, _, rfl, e1315.same e16, hF16⟩
        | false =>
          have hno : ¬ OrdG n s g := fun h => by have := hb.mpr h; cases this
          have hI16 := hI15.hf_fz e16.fz
          have hg16 := hg.same e16
          have hg16' := g'.same e16
          walk_at "rd"
          refine ⟨_, v, th, w, n, s, g, _, rfl, hI16, hH, hg16, hg16', fun h => hno h.1, fun H17 e17 => ?_⟩
          walk_at "rd"
          refine ⟨_, v, w, th, n, s, _, g, rfl, hI16.hf_fz e17.fz, hH, hg16'.same e17, hg16.same e17, fun h => hno h.2, fun H18 e18 => ?_⟩
          have e1618 := e17.trans e18
          walk_at "rd"
          refine i_newL (line_of (by simp)) fun q19 H19 hq19 e19 h19 => ?_
          have e1619 := e1618.trans e19
          walk_at "rd"
          refine ⟨_, v, th, w, n, s, g, _, rfl, hI16.hf_fz e1619.fz, hH, hg16.same e1619, hg16'.same e1619, fun h => hno h.1, fun H20 e20 => ?_⟩
          have e1620 := e1619.trans e20
          walk_at "rd"
          refine ⟨_, v, w, th, n, s, _, g, rfl, hI16.hf_fz e1620.fz, hH, hg16'.same e1620, hg16.same e1620, fun h => hno h.2, fun H21 e21 => ?_⟩
          have e1621 := e1620.trans e21
          walk_at "rd"
          refine i_newL (line_of (by simp)) fun q22 H22 hq22 e22 h22 => ?_
          have e1922 := (e20.trans e21).trans e22
          refine i_addL (e1922 _ _ h19) h22 (line_of (by simp)) fun q23 H23 hq23 e23 h23 => ?_
          have e1623 := (e1621.trans e22).trans e23
          walk_at "rd"
          refine i_inBF (bs := [true, true, true, true]) (SqL.of h23) ?_
          walk_at "rd"
          exact ⟨_, _, _, rfl, e1315.same (e16.trans e1623), hF16.same e1623⟩
      · obtain ⟨x8, x9, x10, rfl, e14, hF14⟩ := hP
        have fz14 := hF13.fz e14
        walk_at "rd"
        refine i_newT (line_of (by simp)) fun t15 H15 ht15 e15 h15 => ?_
        walk_at "rd"
        have fz15 := fz14.trans e15.fz
        refine i_repr (Is.of_tup (SqT.of h15) (.cons (hI13.hf_fz fz15) (.cons (hO13.nm_fz fz15) (.one (hw13.nm_fz fz15))))) ⟨rfl, f3.sh, f3.fits, by omega⟩ ?_
        walk_at "rd"
        exact ⟨_, _, _, _, _, _, _, _, _, rfl, hF14.same e15⟩
    · obtain ⟨x2, x3, x4, x5, x6, x7, x8, x9, x10, rfl, hF2⟩ := hP
      walk_at "rd"
      exact k H2
end
theorem all_mk {l : PySem.W.OpenLaw} {w : World} {K : PySem.W.Frag} {h : Heap} {mg : Str → Option Value} {fa f0 f1 f2 f3 f4 f5 f6 f7 f8 f9 f10 f11 f12 f13 f14 f15 f16 f17 f18 f19 f20 f21 f22 C_HalfError C_NoName C_TooMany C_NoPlace C_NoOrder : Addr} (X : K.In h) (G : h.Ns mainGlobals mg) (hfa : mg "law" = some (.ref fa))
    {od0 an0 od1 an1 od2 an2 od3 an3 od4 an4 od5 an5 od6 an6 od7 an7 od8 an8 od9 an9 od10 an10 od11 an11 od12 an12 od13 an13 od14 an14 od15 an15 od16 an16 od17 an17 od18 an18 od19 an19 od20 an20 od21 an21 od22 an22 : Option Addr} {sl0 sl1 sl2 sl3 sl4 sl5 sl6 sl7 sl8 sl9 sl10 sl11 sl12 sl13 sl14 sl15 sl16 sl17 sl18 sl19 sl20 sl21 sl22 : Array (Option Value)} {oc0 kV0 dc0 pm0 cd0 ct0 oc1 kV1 dc1 pm1 cd1 ct1 oc2 kV2 dc2 pm2 cd2 ct2 oc3 kV3 dc3 pm3 cd3 ct3 oc4 kV4 dc4 pm4 cd4 ct4 oc5 kV5 dc5 pm5 cd5 ct5 oc6 kV6 dc6 pm6 cd6 ct6 oc7 kV7 dc7 pm7 cd7 ct7 oc8 kV8 dc8 pm8 cd8 ct8 oc9 kV9 dc9 pm9 cd9 ct9 oc10 kV10 dc10 pm10 cd10 ct10 oc11 kV11 dc11 pm11 cd11 ct11 oc12 kV12 dc12 pm12 cd12 ct12 oc13 kV13 dc13 pm13 cd13 ct13 oc14 kV14 dc14 pm14 cd14 ct14 oc15 kV15 dc15 pm15 cd15 ct15 oc16 kV16 dc16 pm16 cd16 ct16 oc17 kV17 dc17 pm17 cd17 ct17 oc18 kV18 dc18 pm18 cd18 ct18 oc19 kV19 dc19 pm19 cd19 ct19 oc20 kV20 dc20 pm20 cd20 ct20 oc21 kV21 dc21 pm21 cd21 ct21 oc22 kV22 dc22 pm22 cd22 ct22 : Value}
    (cg : PySem.W.specialIn K (.builtin "object.__class__") "__get__" = some (some (.builtin "getset_descriptor.__get__"))) (ct : PySem.W.takesIn K (.builtin "object.__class__") = some true)
    (aX_HalfError : PySem.W.nsIn K mainGlobals "HalfError" = some (some (.ref C_HalfError)))
    (aX_NoName : PySem.W.nsIn K mainGlobals "NoName" = some (some (.ref C_NoName)))
    (aX_TooMany : PySem.W.nsIn K mainGlobals "TooMany" = some (some (.ref C_TooMany)))
    (aX_NoPlace : PySem.W.nsIn K mainGlobals "NoPlace" = some (some (.ref C_NoPlace)))
    (aX_NoOrder : PySem.W.nsIn K mainGlobals "NoOrder" = some (some (.ref C_NoOrder)))
    (ex_HalfError : xcIn K C_HalfError = true) (sX_HalfError : PySem.W.findIn K (.ref C_HalfError) "__setattr__" = some (some (.builtin "object.__setattr__"))) (gX_HalfError : PySem.W.findIn K (.ref C_HalfError) "__getattribute__" = some (some (.builtin "BaseException.__getattribute__"))) (tX_HalfError : PySem.W.findIn K (.ref C_HalfError) "__getattr__" = some none) (lX_HalfError : PySem.W.findIn K (.ref C_HalfError) "__class__" = some (some (.builtin "object.__class__")))
    (no_HalfError : xc0In K C_HalfError = true)
    (kX_HalfError : PySem.W.keepIn K (.ref C_HalfError) = true)
    (ex_NoName : xcIn K C_NoName = true) (sX_NoName : PySem.W.findIn K (.ref C_NoName) "__setattr__" = some (some (.builtin "object.__setattr__"))) (gX_NoName : PySem.W.findIn K (.ref C_NoName) "__getattribute__" = some (some (.builtin "BaseException.__getattribute__"))) (tX_NoName : PySem.W.findIn K (.ref C_NoName) "__getattr__" = some none) (lX_NoName : PySem.W.findIn K (.ref C_NoName) "__class__" = some (some (.builtin "object.__class__")))
    (mr_NoName : xcMro K C_NoName C_HalfError = true)
    (kX_NoName : PySem.W.keepIn K (.ref C_NoName) = true)
    (nX_NoName_name : PySem.W.findIn K (.ref C_NoName) "name" = some none)
    (ex_TooMany : xcIn K C_TooMany = true) (sX_TooMany : PySem.W.findIn K (.ref C_TooMany) "__setattr__" = some (some (.builtin "object.__setattr__"))) (gX_TooMany : PySem.W.findIn K (.ref C_TooMany) "__getattribute__" = some (some (.builtin "BaseException.__getattribute__"))) (tX_TooMany : PySem.W.findIn K (.ref C_TooMany) "__getattr__" = some none) (lX_TooMany : PySem.W.findIn K (.ref C_TooMany) "__class__" = some (some (.builtin "object.__class__")))
    (mr_TooMany : xcMro K C_TooMany C_HalfError = true)
    (kX_TooMany : PySem.W.keepIn K (.ref C_TooMany) = true)
    (nX_TooMany_word : PySem.W.findIn K (.ref C_TooMany) "word" = some none)
    (ex_NoPlace : xcIn K C_NoPlace = true) (sX_NoPlace : PySem.W.findIn K (.ref C_NoPlace) "__setattr__" = some (some (.builtin "object.__setattr__"))) (gX_NoPlace : PySem.W.findIn K (.ref C_NoPlace) "__getattribute__" = some (some (.builtin "BaseException.__getattribute__"))) (tX_NoPlace : PySem.W.findIn K (.ref C_NoPlace) "__getattr__" = some none) (lX_NoPlace : PySem.W.findIn K (.ref C_NoPlace) "__class__" = some (some (.builtin "object.__class__")))
    (mr_NoPlace : xcMro K C_NoPlace C_HalfError = true)
    (kX_NoPlace : PySem.W.keepIn K (.ref C_NoPlace) = true)
    (nX_NoPlace_number : PySem.W.findIn K (.ref C_NoPlace) "number" = some none)
    (ex_NoOrder : xcIn K C_NoOrder = true) (sX_NoOrder : PySem.W.findIn K (.ref C_NoOrder) "__setattr__" = some (some (.builtin "object.__setattr__"))) (gX_NoOrder : PySem.W.findIn K (.ref C_NoOrder) "__getattribute__" = some (some (.builtin "BaseException.__getattribute__"))) (tX_NoOrder : PySem.W.findIn K (.ref C_NoOrder) "__getattr__" = some none) (lX_NoOrder : PySem.W.findIn K (.ref C_NoOrder) "__class__" = some (some (.builtin "object.__class__")))
    (mr_NoOrder : xcMro K C_NoOrder C_HalfError = true)
    (no_NoOrder : xc0In K C_NoOrder = true)
    (kX_NoOrder : PySem.W.keepIn K (.ref C_NoOrder) = true)
    (ndX : ([C_HalfError, C_NoName, C_NoOrder, C_NoPlace, C_TooMany] : List Addr).Nodup)
    (a0 : PySem.W.nsIn K mainGlobals "is_order" = some (some (.ref f0))) (l0 : K.lookup f0 = some ⟨oc0, od0, .func (PySem.W.fnOf "is_order" "is_order" (defArgs s_is_order) (defBody s_is_order) (defScope s_is_order) .none kV0 dc0 pm0 an0 cd0 ct0), sl0⟩) (c0 : PySem.W.codeIn K cd0 "is_order" = true) (k0 : PySem.W.keepIn K (.ref f0) = true)
    (a1 : PySem.W.nsIn K mainGlobals "refuse_no_order" = some (some (.ref f1))) (l1 : K.lookup f1 = some ⟨oc1, od1, .func (PySem.W.fnOf "refuse_no_order" "refuse_no_order" (defArgs s_refuse_no_order) (defBody s_refuse_no_order) (defScope s_refuse_no_order) .none kV1 dc1 pm1 an1 cd1 ct1), sl1⟩) (c1 : PySem.W.codeIn K cd1 "refuse_no_order" = true) (k1 : PySem.W.keepIn K (.ref f1) = true)
    (a2 : PySem.W.nsIn K mainGlobals "pairs_apart" = some (some (.ref f2))) (l2 : K.lookup f2 = some ⟨oc2, od2, .func (PySem.W.fnOf "pairs_apart" "pairs_apart" (defArgs s_pairs_apart) (defBody s_pairs_apart) (defScope s_pairs_apart) .none kV2 dc2 pm2 an2 cd2 ct2), sl2⟩) (c2 : PySem.W.codeIn K cd2 "pairs_apart" = true) (k2 : PySem.W.keepIn K (.ref f2) = true)
    (a3 : PySem.W.nsIn K mainGlobals "apart" = some (some (.ref f3))) (l3 : K.lookup f3 = some ⟨oc3, od3, .func (PySem.W.fnOf "apart" "apart" (defArgs s_apart) (defBody s_apart) (defScope s_apart) .none kV3 dc3 pm3 an3 cd3 ct3), sl3⟩) (c3 : PySem.W.codeIn K cd3 "apart" = true) (k3 : PySem.W.keepIn K (.ref f3) = true)
    (a4 : PySem.W.nsIn K mainGlobals "swapped" = some (some (.ref f4))) (l4 : K.lookup f4 = some ⟨oc4, od4, .func (PySem.W.fnOf "swapped" "swapped" (defArgs s_swapped) (defBody s_swapped) (defScope s_swapped) .none kV4 dc4 pm4 an4 cd4 ct4), sl4⟩) (c4 : PySem.W.codeIn K cd4 "swapped" = true) (k4 : PySem.W.keepIn K (.ref f4) = true)
    (a5 : PySem.W.nsIn K mainGlobals "step_towards" = some (some (.ref f5))) (l5 : K.lookup f5 = some ⟨oc5, od5, .func (PySem.W.fnOf "step_towards" "step_towards" (defArgs s_step_towards) (defBody s_step_towards) (defScope s_step_towards) .none kV5 dc5 pm5 an5 cd5 ct5), sl5⟩) (c5 : PySem.W.codeIn K cd5 "step_towards" = true) (k5 : PySem.W.keepIn K (.ref f5) = true)
    (a6 : PySem.W.nsIn K mainGlobals "way_between" = some (some (.ref f6))) (l6 : K.lookup f6 = some ⟨oc6, od6, .func (PySem.W.fnOf "way_between" "way_between" (defArgs s_way_between) (defBody s_way_between) (defScope s_way_between) .none kV6 dc6 pm6 an6 cd6 ct6), sl6⟩) (c6 : PySem.W.codeIn K cd6 "way_between" = true) (k6 : PySem.W.keepIn K (.ref f6) = true)
    (a7 : PySem.W.nsIn K mainGlobals "_law_feed" = some (some (.ref f7))) (l7 : K.lookup f7 = some ⟨oc7, od7, .func (PySem.W.fnOf "_law_feed" "_law_feed" (defArgs s__law_feed) (defBody s__law_feed) (defScope s__law_feed) .none kV7 dc7 pm7 an7 cd7 ct7), sl7⟩) (c7 : PySem.W.codeIn K cd7 "_law_feed" = true) (k7 : PySem.W.keepIn K (.ref f7) = true)
    (a8 : PySem.W.nsIn K mainGlobals "_law_draw" = some (some (.ref f8))) (l8 : K.lookup f8 = some ⟨oc8, od8, .func (PySem.W.fnOf "_law_draw" "_law_draw" (defArgs s__law_draw) (defBody s__law_draw) (defScope s__law_draw) .none kV8 dc8 pm8 an8 cd8 ct8), sl8⟩) (c8 : PySem.W.codeIn K cd8 "_law_draw" = true) (k8 : PySem.W.keepIn K (.ref f8) = true)
    (a9 : PySem.W.nsIn K mainGlobals "_law_shuffled" = some (some (.ref f9))) (l9 : K.lookup f9 = some ⟨oc9, od9, .func (PySem.W.fnOf "_law_shuffled" "_law_shuffled" (defArgs s__law_shuffled) (defBody s__law_shuffled) (defScope s__law_shuffled) .none kV9 dc9 pm9 an9 cd9 ct9), sl9⟩) (c9 : PySem.W.codeIn K cd9 "_law_shuffled" = true) (k9 : PySem.W.keepIn K (.ref f9) = true)
    (a10 : PySem.W.nsIn K mainGlobals "_law_names" = some (some (.ref f10))) (l10 : K.lookup f10 = some ⟨oc10, od10, .func (PySem.W.fnOf "_law_names" "_law_names" (defArgs s__law_names) (defBody s__law_names) (defScope s__law_names) .none kV10 dc10 pm10 an10 cd10 ct10), sl10⟩) (c10 : PySem.W.codeIn K cd10 "_law_names" = true) (k10 : PySem.W.keepIn K (.ref f10) = true)
    (a11 : PySem.W.nsIn K mainGlobals "_law_is_laid" = some (some (.ref f11))) (l11 : K.lookup f11 = some ⟨oc11, od11, .func (PySem.W.fnOf "_law_is_laid" "_law_is_laid" (defArgs s__law_is_laid) (defBody s__law_is_laid) (defScope s__law_is_laid) .none kV11 dc11 pm11 an11 cd11 ct11), sl11⟩) (c11 : PySem.W.codeIn K cd11 "_law_is_laid" = true) (k11 : PySem.W.keepIn K (.ref f11) = true)
    (a12 : PySem.W.nsIn K mainGlobals "_law_half" = some (some (.ref f12))) (l12 : K.lookup f12 = some ⟨oc12, od12, .func (PySem.W.fnOf "_law_half" "_law_half" (defArgs s__law_half) (defBody s__law_half) (defScope s__law_half) .none kV12 dc12 pm12 an12 cd12 ct12), sl12⟩) (c12 : PySem.W.codeIn K cd12 "_law_half" = true) (k12 : PySem.W.keepIn K (.ref f12) = true)
    (a13 : PySem.W.nsIn K mainGlobals "_law_over" = some (some (.ref f13))) (l13 : K.lookup f13 = some ⟨oc13, od13, .func (PySem.W.fnOf "_law_over" "_law_over" (defArgs s__law_over) (defBody s__law_over) (defScope s__law_over) .none kV13 dc13 pm13 an13 cd13 ct13), sl13⟩) (c13 : PySem.W.codeIn K cd13 "_law_over" = true) (k13 : PySem.W.keepIn K (.ref f13) = true)
    (a14 : PySem.W.nsIn K mainGlobals "_law_next_ones" = some (some (.ref f14))) (l14 : K.lookup f14 = some ⟨oc14, od14, .func (PySem.W.fnOf "_law_next_ones" "_law_next_ones" (defArgs s__law_next_ones) (defBody s__law_next_ones) (defScope s__law_next_ones) .none kV14 dc14 pm14 an14 cd14 ct14), sl14⟩) (c14 : PySem.W.codeIn K cd14 "_law_next_ones" = true) (k14 : PySem.W.keepIn K (.ref f14) = true)
    (a15 : PySem.W.nsIn K mainGlobals "_law_an_order" = some (some (.ref f15))) (l15 : K.lookup f15 = some ⟨oc15, od15, .func (PySem.W.fnOf "_law_an_order" "_law_an_order" (defArgs s__law_an_order) (defBody s__law_an_order) (defScope s__law_an_order) .none kV15 dc15 pm15 an15 cd15 ct15), sl15⟩) (c15 : PySem.W.codeIn K cd15 "_law_an_order" = true) (k15 : PySem.W.keepIn K (.ref f15) = true)
    (a16 : PySem.W.nsIn K mainGlobals "_law_is_order" = some (some (.ref f16))) (l16 : K.lookup f16 = some ⟨oc16, od16, .func (PySem.W.fnOf "_law_is_order" "_law_is_order" (defArgs s__law_is_order) (defBody s__law_is_order) (defScope s__law_is_order) .none kV16 dc16 pm16 an16 cd16 ct16), sl16⟩) (c16 : PySem.W.codeIn K cd16 "_law_is_order" = true) (k16 : PySem.W.keepIn K (.ref f16) = true)
    (a17 : PySem.W.nsIn K mainGlobals "_law_bent" = some (some (.ref f17))) (l17 : K.lookup f17 = some ⟨oc17, od17, .func (PySem.W.fnOf "_law_bent" "_law_bent" (defArgs s__law_bent) (defBody s__law_bent) (defScope s__law_bent) .none kV17 dc17 pm17 an17 cd17 ct17), sl17⟩) (c17 : PySem.W.codeIn K cd17 "_law_bent" = true) (k17 : PySem.W.keepIn K (.ref f17) = true)
    (a18 : PySem.W.nsIn K mainGlobals "_law_apart" = some (some (.ref f18))) (l18 : K.lookup f18 = some ⟨oc18, od18, .func (PySem.W.fnOf "_law_apart" "_law_apart" (defArgs s__law_apart) (defBody s__law_apart) (defScope s__law_apart) .none kV18 dc18 pm18 an18 cd18 ct18), sl18⟩) (c18 : PySem.W.codeIn K cd18 "_law_apart" = true) (k18 : PySem.W.keepIn K (.ref f18) = true)
    (a19 : PySem.W.nsIn K mainGlobals "_law_is_swap" = some (some (.ref f19))) (l19 : K.lookup f19 = some ⟨oc19, od19, .func (PySem.W.fnOf "_law_is_swap" "_law_is_swap" (defArgs s__law_is_swap) (defBody s__law_is_swap) (defScope s__law_is_swap) .none kV19 dc19 pm19 an19 cd19 ct19), sl19⟩) (c19 : PySem.W.codeIn K cd19 "_law_is_swap" = true) (k19 : PySem.W.keepIn K (.ref f19) = true)
    (a20 : PySem.W.nsIn K mainGlobals "_law_way_right" = some (some (.ref f20))) (l20 : K.lookup f20 = some ⟨oc20, od20, .func (PySem.W.fnOf "_law_way_right" "_law_way_right" (defArgs s__law_way_right) (defBody s__law_way_right) (defScope s__law_way_right) .none kV20 dc20 pm20 an20 cd20 ct20), sl20⟩) (c20 : PySem.W.codeIn K cd20 "_law_way_right" = true) (k20 : PySem.W.keepIn K (.ref f20) = true)
    (a21 : PySem.W.nsIn K mainGlobals "_law_refused" = some (some (.ref f21))) (l21 : K.lookup f21 = some ⟨oc21, od21, .func (PySem.W.fnOf "_law_refused" "_law_refused" (defArgs s__law_refused) (defBody s__law_refused) (defScope s__law_refused) .none kV21 dc21 pm21 an21 cd21 ct21), sl21⟩) (c21 : PySem.W.codeIn K cd21 "_law_refused" = true) (k21 : PySem.W.keepIn K (.ref f21) = true)
    (a22 : PySem.W.nsIn K mainGlobals "law" = some (some (.ref f22))) (l22 : K.lookup f22 = some ⟨oc22, od22, .func (PySem.W.fnOf "law" "law" (defArgs s_law) (defBody s_law) (defScope s_law) .none kV22 dc22 pm22 an22 cd22 ct22), sl22⟩) (c22 : PySem.W.codeIn K cd22 "law" = true) (k22 : PySem.W.keepIn K (.ref f22) = true)
    (z0 : PySem.W.nsIn K mainGlobals "ValueError" = some none)
    (z1 : PySem.W.nsIn K mainGlobals "all" = some none)
    (z2 : PySem.W.nsIn K mainGlobals "dict" = some none)
    (z3 : PySem.W.nsIn K mainGlobals "enumerate" = some none)
    (z4 : PySem.W.nsIn K mainGlobals "int" = some none)
    (z5 : PySem.W.nsIn K mainGlobals "isinstance" = some none)
    (z6 : PySem.W.nsIn K mainGlobals "len" = some none)
    (z7 : PySem.W.nsIn K mainGlobals "list" = some none)
    (z8 : PySem.W.nsIn K mainGlobals "range" = some none)
    (z9 : PySem.W.nsIn K mainGlobals "repr" = some none)
    (z10 : PySem.W.nsIn K mainGlobals "sorted" = some none)
    (z11 : PySem.W.nsIn K mainGlobals "str" = some none)
    (z12 : PySem.W.nsIn K mainGlobals "tuple" = some none)
    (z13 : PySem.W.nsIn K mainGlobals "zip" = some none)
    : ∃ fd : FuncData, (∀ (s : Shared) (v : Value), BindsTo s fd ⟨[v], []⟩ [("_law_script", v)]) ∧ ∀ base : Heap, K.In base → base.Ns mainGlobals mg → FnOk l.prog w K mg base CX0 5 fa fd ["_law_script"] (spLaw K) := by
  have e := hfa.symm.trans (PySem.W.mg_of X G a22)
  cases e
  have T : TopF mg := ⟨PySem.W.mg_none_of X G z0, PySem.W.mg_none_of X G z1, PySem.W.mg_none_of X G z2, PySem.W.mg_none_of X G z3, PySem.W.mg_none_of X G z4, PySem.W.mg_none_of X G z5, PySem.W.mg_none_of X G z6, PySem.W.mg_none_of X G z7, PySem.W.mg_none_of X G z8, PySem.W.mg_none_of X G z9, PySem.W.mg_none_of X G z10, PySem.W.mg_none_of X G z11, PySem.W.mg_none_of X G z12, PySem.W.mg_none_of X G z13⟩
  have F0 := fun_mk (st := s_is_order) l0 c0 k0
  have b0 : Binds K _ ["half", "thing"] [] := binds2 F0 fun _ _ _ _ _ _ _ _ => rfl
  have F1 := fun_mk (st := s_refuse_no_order) l1 c1 k1
  have b1 : Binds K _ ["half", "thing"] [] := binds2 F1 fun _ _ _ _ _ _ _ _ => rfl
  have F2 := fun_mk (st := s_pairs_apart) l2 c2 k2
  have b2 : Binds K _ ["one", "other"] [] := binds2 F2 fun _ _ _ _ _ _ _ _ => rfl
  have F3 := fun_mk (st := s_apart) l3 c3 k3
  have b3 : Binds K _ ["half", "one", "other"] [] := binds3 F3 fun _ _ _ _ _ _ _ _ _ => rfl
  have F4 := fun_mk (st := s_swapped) l4 c4 k4
  have b4 : Binds K _ ["order", "place"] [] := binds2 F4 fun _ _ _ _ _ _ _ _ => rfl
  have F5 := fun_mk (st := s_step_towards) l5 c5 k5
  have b5 : Binds K _ ["order", "goal"] [] := binds2 F5 fun _ _ _ _ _ _ _ _ => rfl
  have F6 := fun_mk (st := s_way_between) l6 c6 k6
  have b6 : Binds K _ ["half", "one", "other"] [] := binds3 F6 fun _ _ _ _ _ _ _ _ _ => rfl
  have F7 := fun_mk (st := s__law_feed) l7 c7 k7
  have b7 : Binds K _ ["_law_script"] [] := binds1 F7 fun _ _ _ _ _ _ _ => rfl
  have F8 := fun_mk (st := s__law_draw) l8 c8 k8
  have b8 : Binds K _ ["_law_feed_here", "_law_many"] [] := binds2 F8 fun _ _ _ _ _ _ _ _ => rfl
  have F9 := fun_mk (st := s__law_shuffled) l9 c9 k9
  have b9 : Binds K _ ["_law_feed_here", "_law_some"] [] := binds2 F9 fun _ _ _ _ _ _ _ _ => rfl
  have F10 := fun_mk (st := s__law_names) l10 c10 k10
  have b10 : Binds K _ ["_law_feed_here"] [] := binds1 F10 fun _ _ _ _ _ _ _ => rfl
  have F11 := fun_mk (st := s__law_is_laid) l11 c11 k11
  have b11 : Binds K _ ["_law_feed_here", "_law_way", "_law_j", "_law_k", "_law_many"] [] := binds5 F11 fun _ _ _ _ _ _ _ _ _ _ _ => rfl
  have F12 := fun_mk (st := s__law_half) l12 c12 k12
  have b12 : Binds K _ ["_law_feed_here", "_law_many"] [] := binds2 F12 fun _ _ _ _ _ _ _ _ => rfl
  have F13 := fun_mk (st := s__law_over) l13 c13 k13
  have b13 : Binds K _ ["_law_half_here"] [] := binds1 F13 fun _ _ _ _ _ _ _ => rfl
  have F14 := fun_mk (st := s__law_next_ones) l14 c14 k14
  have b14 : Binds K _ ["_law_half_here", "_law_over_here", "_law_begun"] [] := binds3 F14 fun _ _ _ _ _ _ _ _ _ => rfl
  have F15 := fun_mk (st := s__law_an_order) l15 c15 k15
  have b15 : Binds K _ ["_law_feed_here", "_law_half_here", "_law_over_here"] [] := binds3 F15 fun _ _ _ _ _ _ _ _ _ => rfl
  have F16 := fun_mk (st := s__law_is_order) l16 c16 k16
  have b16 : Binds K _ ["_law_half_here", "_law_over_here", "_law_thing"] [] := binds3 F16 fun _ _ _ _ _ _ _ _ _ => rfl
  have F17 := fun_mk (st := s__law_bent) l17 c17 k17
  have b17 : Binds K _ ["_law_feed_here", "_law_half_here", "_law_order"] [] := binds3 F17 fun _ _ _ _ _ _ _ _ _ => rfl
  have F18 := fun_mk (st := s__law_apart) l18 c18 k18
  have b18 : Binds K _ ["_law_one", "_law_other"] [] := binds2 F18 fun _ _ _ _ _ _ _ _ => rfl
  have F19 := fun_mk (st := s__law_is_swap) l19 c19 k19
  have b19 : Binds K _ ["_law_one", "_law_other"] [] := binds2 F19 fun _ _ _ _ _ _ _ _ => rfl
  have F20 := fun_mk (st := s__law_way_right) l20 c20 k20
  have b20 : Binds K _ ["_law_half_here", "_law_over_here", "_law_one", "_law_other"] [] := binds4 F20 fun _ _ _ _ _ _ _ _ _ _ => rfl
  have F21 := fun_mk (st := s__law_refused) l21 c21 k21
  have b21 : Binds K _ ["_law_word", "_law_half_here", "_law_one", "_law_other"] [] := binds4 F21 fun _ _ _ _ _ _ _ _ _ _ => rfl
  have F22 := fun_mk (st := s_law) l22 c22 k22
  have x_HalfError : Xls_HalfError K mg C_HalfError C_HalfError := ⟨⟨ex_HalfError, sX_HalfError, gX_HalfError, tX_HalfError, lX_HalfError, cg, ct⟩, PySem.W.mg_of X G aX_HalfError, ⟨⟨ex_HalfError, sX_HalfError, gX_HalfError, tX_HalfError, lX_HalfError, cg, ct⟩, no_HalfError, kX_HalfError, PySem.W.mg_of X G aX_HalfError⟩⟩
  have x_NoName : Xls_NoName K mg C_NoName C_HalfError := ⟨⟨ex_NoName, sX_NoName, gX_NoName, tX_NoName, lX_NoName, cg, ct⟩, PySem.W.mg_of X G aX_NoName, mr_NoName, nX_NoName_name⟩
  have x_TooMany : Xls_TooMany K mg C_TooMany C_HalfError := ⟨⟨ex_TooMany, sX_TooMany, gX_TooMany, tX_TooMany, lX_TooMany, cg, ct⟩, PySem.W.mg_of X G aX_TooMany, mr_TooMany, nX_TooMany_word⟩
  have x_NoPlace : Xls_NoPlace K mg C_NoPlace C_HalfError := ⟨⟨ex_NoPlace, sX_NoPlace, gX_NoPlace, tX_NoPlace, lX_NoPlace, cg, ct⟩, PySem.W.mg_of X G aX_NoPlace, mr_NoPlace, nX_NoPlace_number⟩
  have x_NoOrder : Xls_NoOrder K mg C_NoOrder C_HalfError := ⟨⟨ex_NoOrder, sX_NoOrder, gX_NoOrder, tX_NoOrder, lX_NoOrder, cg, ct⟩, PySem.W.mg_of X G aX_NoOrder, mr_NoOrder, ⟨⟨ex_NoOrder, sX_NoOrder, gX_NoOrder, tX_NoOrder, lX_NoOrder, cg, ct⟩, no_NoOrder, kX_NoOrder, PySem.W.mg_of X G aX_NoOrder⟩⟩
  refine ⟨PySem.W.fnOf "law" "law" (defArgs s_law) (defBody s_law) (defScope s_law) .none kV22 dc22 pm22 an22 cd22 ct22, fun s v => .of_eq rfl, fun base _ _ => ?_⟩
  have c_is_order : Fnd l.prog w K mg base 1 "is_order" ["half", "thing"] (sp_is_order K) := ⟨_, _, ok_is_order F0 T, PySem.W.mg_of X G a0, k0, b0⟩
  have c_pairs_apart : Fnd l.prog w K mg base 1 "pairs_apart" ["one", "other"] (sp_pairs_apart K) := ⟨_, _, ok_pairs_apart F2 T, PySem.W.mg_of X G a2, k2, b2⟩
  have c_swapped : Fnd l.prog w K mg base 1 "swapped" ["order", "place"] (sp_swapped K) := ⟨_, _, ok_swapped F4 T, PySem.W.mg_of X G a4, k4, b4⟩
  have c__law_feed : Fnd l.prog w K mg base 1 "_law_feed" ["_law_script"] (sp__law_feed K) := ⟨_, _, ok__law_feed F7 T, PySem.W.mg_of X G a7, k7, b7⟩
  have c__law_draw : Fnd l.prog w K mg base 1 "_law_draw" ["_law_feed_here", "_law_many"] (sp__law_draw K) := ⟨_, _, ok__law_draw F8 T, PySem.W.mg_of X G a8, k8, b8⟩
  have c__law_over : Fnd l.prog w K mg base 1 "_law_over" ["_law_half_here"] (sp__law_over K) := ⟨_, _, ok__law_over F13 T, PySem.W.mg_of X G a13, k13, b13⟩
  have c__law_next_ones : Fnd l.prog w K mg base 1 "_law_next_ones" ["_law_half_here", "_law_over_here", "_law_begun"] (sp__law_next_ones K) := ⟨_, _, ok__law_next_ones F14 T, PySem.W.mg_of X G a14, k14, b14⟩
  have c__law_is_order : Fnd l.prog w K mg base 1 "_law_is_order" ["_law_half_here", "_law_over_here", "_law_thing"] (sp__law_is_order K) := ⟨_, _, ok__law_is_order F16 T, PySem.W.mg_of X G a16, k16, b16⟩
  have c__law_apart : Fnd l.prog w K mg base 1 "_law_apart" ["_law_one", "_law_other"] (sp__law_apart K) := ⟨_, _, ok__law_apart F18 T, PySem.W.mg_of X G a18, k18, b18⟩
  have c__law_is_swap : Fnd l.prog w K mg base 1 "_law_is_swap" ["_law_one", "_law_other"] (sp__law_is_swap K) := ⟨_, _, ok__law_is_swap F19 T, PySem.W.mg_of X G a19, k19, b19⟩
  have c_refuse_no_order : Fnd l.prog w K mg base 2 "refuse_no_order" ["half", "thing"] (sp_refuse_no_order K) := ⟨_, _, ok_refuse_no_order F1 T c_is_order, PySem.W.mg_of X G a1, k1, b1⟩
  have d_refuse_no_order : Fnd1 l.prog w K mg base 2 "refuse_no_order" ["half", "thing"] (spx_refuse_no_order C_NoOrder K) := ⟨_, _, okx_refuse_no_order F1 T x_HalfError x_NoName x_NoOrder c_is_order, PySem.W.mg_of X G a1, k1, b1⟩
  have c_step_towards : Fnd l.prog w K mg base 2 "step_towards" ["order", "goal"] (sp_step_towards K) := ⟨_, _, ok_step_towards F5 T c_swapped, PySem.W.mg_of X G a5, k5, b5⟩
  have c__law_shuffled : Fnd l.prog w K mg base 2 "_law_shuffled" ["_law_feed_here", "_law_some"] (sp__law_shuffled K) := ⟨_, _, ok__law_shuffled F9 T c__law_draw, PySem.W.mg_of X G a9, k9, b9⟩
  have c__law_is_laid : Fnd l.prog w K mg base 2 "_law_is_laid" ["_law_feed_here", "_law_way", "_law_j", "_law_k", "_law_many"] (sp__law_is_laid K) := ⟨_, _, ok__law_is_laid F11 T c__law_draw, PySem.W.mg_of X G a11, k11, b11⟩
  have c__law_an_order : Fnd l.prog w K mg base 2 "_law_an_order" ["_law_feed_here", "_law_half_here", "_law_over_here"] (sp__law_an_order K) := ⟨_, _, ok__law_an_order F15 T c__law_draw c__law_next_ones, PySem.W.mg_of X G a15, k15, b15⟩
  have c__law_bent : Fnd l.prog w K mg base 2 "_law_bent" ["_law_feed_here", "_law_half_here", "_law_order"] (sp__law_bent K) := ⟨_, _, ok__law_bent F17 T c__law_draw, PySem.W.mg_of X G a17, k17, b17⟩
  have c_apart : Fnd l.prog w K mg base 3 "apart" ["half", "one", "other"] (sp_apart K) := ⟨_, _, ok_apart F3 T c_refuse_no_order c_pairs_apart, PySem.W.mg_of X G a3, k3, b3⟩
  have d_apart : Fnd1 l.prog w K mg base 3 "apart" ["half", "one", "other"] (spx_apart C_NoOrder K) := ⟨_, _, okx_apart F3 T x_HalfError x_NoName x_NoOrder c_pairs_apart d_refuse_no_order, PySem.W.mg_of X G a3, k3, b3⟩
  have c_way_between : Fnd l.prog w K mg base 3 "way_between" ["half", "one", "other"] (sp_way_between K) := ⟨_, _, ok_way_between F6 T c_refuse_no_order c_step_towards, PySem.W.mg_of X G a6, k6, b6⟩
  have d_way_between : Fnd1 l.prog w K mg base 3 "way_between" ["half", "one", "other"] (spx_way_between C_NoOrder K) := ⟨_, _, okx_way_between F6 T x_HalfError x_NoName x_NoOrder c_step_towards d_refuse_no_order, PySem.W.mg_of X G a6, k6, b6⟩
  have c__law_names : Fnd l.prog w K mg base 3 "_law_names" ["_law_feed_here"] (sp__law_names K) := ⟨_, _, ok__law_names F10 T c__law_draw c__law_shuffled, PySem.W.mg_of X G a10, k10, b10⟩
  have c__law_half : Fnd l.prog w K mg base 4 "_law_half" ["_law_feed_here", "_law_many"] (sp__law_half K) := ⟨_, _, ok__law_half F12 T c__law_draw c__law_shuffled c__law_names c__law_is_laid, PySem.W.mg_of X G a12, k12, b12⟩
  have c__law_way_right : Fnd l.prog w K mg base 4 "_law_way_right" ["_law_half_here", "_law_over_here", "_law_one", "_law_other"] (sp__law_way_right K) := ⟨_, _, ok__law_way_right F20 T c_way_between c__law_is_order c__law_apart c__law_is_swap, PySem.W.mg_of X G a20, k20, b20⟩
  have c__law_refused : Fnd l.prog w K mg base 4 "_law_refused" ["_law_word", "_law_half_here", "_law_one", "_law_other"] (sp__law_refused K) := ⟨_, _, ok__law_refused F21 T x_HalfError x_NoName x_TooMany x_NoPlace x_NoOrder ndX d_apart d_way_between, PySem.W.mg_of X G a21, k21, b21⟩
  exact ok_law F22 T c_apart c__law_feed c__law_draw c__law_half c__law_over c__law_an_order c__law_is_order c__law_bent c__law_apart c__law_way_right c__law_refused
theorem walk {l : PySem.W.OpenLaw} {q : Program} {loose : List Str} {XP : (Str → Option Value) → Heap → Prop} {YP : World → Heap → Prop} {d : DefRec} {K : Params → PySem.W.Frag} (hn : l.most = some 63) (hdf : d.params.defaults = [])
    (hY : ∀ (w : World) (h : Heap), YP w h → (K w.params).In h)
    (F : ∀ (w : World) (mg : Str → Option Value) (fa : Addr) (h : Heap), (K w.params).In h → h.Ns mainGlobals mg → mg d.name = some (.ref fa) →
      ∃ fd : FuncData, (∀ (s : Shared) (u : Value), BindsTo s fd ⟨[u], []⟩ [("_law_script", u)]) ∧ ∀ base : Heap, (K w.params).In base → base.Ns mainGlobals mg → FnOk l.prog w (K w.params) mg base CX0 5 fa fd ["_law_script"] (spLaw (K w.params))) :
    PySem.W.WalkO q loose XP YP l.row.toRowW d [] (fun f vs => PySem.call f vs) :=
  L2.walk_of (n := 63) (k := 5) (x := "_law_script") (CX := fun _ => CX0) (sp := fun w => spLaw (K w.params)) hn (by decide) hdf ⟨rfl, by decide, by decide, rfl⟩ hY F (fun _ _ a ns hl _ hS => ⟨a, ns, rfl, hS, hl, fun _ => rfl⟩) fun _ _ _ _ _ z => z
end K35
open PySem PySem.W PyProof.Rows
set_option maxRecDepth 100000 in
set_option maxHeartbeats 0 in
theorem PySem.Challenge.cw_halforder_k35_apart_and_ways_between_holds : PySem.Challenge.rw_halforder_k35_apart_and_ways_between.Holds := by
  w_on; o_law; k_head; (case hw => w_witness2)
  k_fill
  refine K35.walk (l := PySem.Challenge.rw_halforder_k35_apart_and_ways_between) rfl rfl (fun w h Y => PySem.W.kIn_of Y) ?F
  case F =>
    intro w mg fa h KX G hmg
    refine' K35.all_mk KX G hmg ?q_cg ?q_ct ?q_aX_HalfError ?q_aX_NoName ?q_aX_TooMany ?q_aX_NoPlace ?q_aX_NoOrder ?q_ex_HalfError ?q_sX_HalfError ?q_gX_HalfError ?q_tX_HalfError ?q_lX_HalfError ?q_no_HalfError ?q_kX_HalfError ?q_ex_NoName ?q_sX_NoName ?q_gX_NoName ?q_tX_NoName ?q_lX_NoName ?q_mr_NoName ?q_kX_NoName ?q_nX_NoName_name ?q_ex_TooMany ?q_sX_TooMany ?q_gX_TooMany ?q_tX_TooMany ?q_lX_TooMany ?q_mr_TooMany ?q_kX_TooMany ?q_nX_TooMany_word ?q_ex_NoPlace ?q_sX_NoPlace ?q_gX_NoPlace ?q_tX_NoPlace ?q_lX_NoPlace ?q_mr_NoPlace ?q_kX_NoPlace ?q_nX_NoPlace_number ?q_ex_NoOrder ?q_sX_NoOrder ?q_gX_NoOrder ?q_tX_NoOrder ?q_lX_NoOrder ?q_mr_NoOrder ?q_no_NoOrder ?q_kX_NoOrder ?q_ndX ?q_a0 ?q_l0 ?q_c0 ?q_k0 ?q_a1 ?q_l1 ?q_c1 ?q_k1 ?q_a2 ?q_l2 ?q_c2 ?q_k2 ?q_a3 ?q_l3 ?q_c3 ?q_k3 ?q_a4 ?q_l4 ?q_c4 ?q_k4 ?q_a5 ?q_l5 ?q_c5 ?q_k5 ?q_a6 ?q_l6 ?q_c6 ?q_k6 ?q_a7 ?q_l7 ?q_c7 ?q_k7 ?q_a8 ?q_l8 ?q_c8 ?q_k8 ?q_a9 ?q_l9 ?q_c9 ?q_k9 ?q_a10 ?q_l10 ?q_c10 ?q_k10 ?q_a11 ?q_l11 ?q_c11 ?q_k11 ?q_a12 ?q_l12 ?q_c12 ?q_k12 ?q_a13 ?q_l13 ?q_c13 ?q_k13 ?q_a14 ?q_l14 ?q_c14 ?q_k14 ?q_a15 ?q_l15 ?q_c15 ?q_k15 ?q_a16 ?q_l16 ?q_c16 ?q_k16 ?q_a17 ?q_l17 ?q_c17 ?q_k17 ?q_a18 ?q_l18 ?q_c18 ?q_k18 ?q_a19 ?q_l19 ?q_c19 ?q_k19 ?q_a20 ?q_l20 ?q_c20 ?q_k20 ?q_a21 ?q_l21 ?q_c21 ?q_k21 ?q_a22 ?q_l22 ?q_c22 ?q_k22 ?q_z0 ?q_z1 ?q_z2 ?q_z3 ?q_z4 ?q_z5 ?q_z6 ?q_z7 ?q_z8 ?q_z9 ?q_z10 ?q_z11 ?q_z12 ?q_z13
    (case q_cg => k_is)
    (case q_ct => k_is)
    (case q_aX_HalfError => k_is)
    (case q_aX_NoName => k_is)
    (case q_aX_TooMany => k_is)
    (case q_aX_NoPlace => k_is)
    (case q_aX_NoOrder => k_is)
    (case q_ex_HalfError => kernel_rfl)
    (case q_sX_HalfError => k_is)
    (case q_gX_HalfError => k_is)
    (case q_tX_HalfError => k_is)
    (case q_lX_HalfError => k_is)
    (case q_no_HalfError => kernel_rfl)
    (case q_kX_HalfError => k_is)
    (case q_ex_NoName => kernel_rfl)
    (case q_sX_NoName => k_is)
    (case q_gX_NoName => k_is)
    (case q_tX_NoName => k_is)
    (case q_lX_NoName => k_is)
    (case q_mr_NoName => kernel_rfl)
    (case q_kX_NoName => k_is)
    (case q_nX_NoName_name => k_is)
    (case q_ex_TooMany => kernel_rfl)
    (case q_sX_TooMany => k_is)
    (case q_gX_TooMany => k_is)
    (case q_tX_TooMany => k_is)
    (case q_lX_TooMany => k_is)
    (case q_mr_TooMany => kernel_rfl)
    (case q_kX_TooMany => k_is)
    (case q_nX_TooMany_word => k_is)
    (case q_ex_NoPlace => kernel_rfl)
    (case q_sX_NoPlace => k_is)
    (case q_gX_NoPlace => k_is)
    (case q_tX_NoPlace => k_is)
    (case q_lX_NoPlace => k_is)
    (case q_mr_NoPlace => kernel_rfl)
    (case q_kX_NoPlace => k_is)
    (case q_nX_NoPlace_number => k_is)
    (case q_ex_NoOrder => kernel_rfl)
    (case q_sX_NoOrder => k_is)
    (case q_gX_NoOrder => k_is)
    (case q_tX_NoOrder => k_is)
    (case q_lX_NoOrder => k_is)
    (case q_mr_NoOrder => kernel_rfl)
    (case q_no_NoOrder => kernel_rfl)
    (case q_kX_NoOrder => k_is)
    (case q_ndX => decide)
    (case q_a0 => k_is)
    (case q_l0 => k_is)
    (case q_c0 => k_is)
    (case q_k0 => k_is)
    (case q_a1 => k_is)
    (case q_l1 => k_is)
    (case q_c1 => k_is)
    (case q_k1 => k_is)
    (case q_a2 => k_is)
    (case q_l2 => k_is)
    (case q_c2 => k_is)
    (case q_k2 => k_is)
    (case q_a3 => k_is)
    (case q_l3 => k_is)
    (case q_c3 => k_is)
    (case q_k3 => k_is)
    (case q_a4 => k_is)
    (case q_l4 => k_is)
    (case q_c4 => k_is)
    (case q_k4 => k_is)
    (case q_a5 => k_is)
    (case q_l5 => k_is)
    (case q_c5 => k_is)
    (case q_k5 => k_is)
    (case q_a6 => k_is)
    (case q_l6 => k_is)
    (case q_c6 => k_is)
    (case q_k6 => k_is)
    (case q_a7 => k_is)
    (case q_l7 => k_is)
    (case q_c7 => k_is)
    (case q_k7 => k_is)
    (case q_a8 => k_is)
    (case q_l8 => k_is)
    (case q_c8 => k_is)
    (case q_k8 => k_is)
    (case q_a9 => k_is)
    (case q_l9 => k_is)
    (case q_c9 => k_is)
    (case q_k9 => k_is)
    (case q_a10 => k_is)
    (case q_l10 => k_is)
    (case q_c10 => k_is)
    (case q_k10 => k_is)
    (case q_a11 => k_is)
    (case q_l11 => k_is)
    (case q_c11 => k_is)
    (case q_k11 => k_is)
    (case q_a12 => k_is)
    (case q_l12 => k_is)
    (case q_c12 => k_is)
    (case q_k12 => k_is)
    (case q_a13 => k_is)
    (case q_l13 => k_is)
    (case q_c13 => k_is)
    (case q_k13 => k_is)
    (case q_a14 => k_is)
    (case q_l14 => k_is)
    (case q_c14 => k_is)
    (case q_k14 => k_is)
    (case q_a15 => k_is)
    (case q_l15 => k_is)
    (case q_c15 => k_is)
    (case q_k15 => k_is)
    (case q_a16 => k_is)
    (case q_l16 => k_is)
    (case q_c16 => k_is)
    (case q_k16 => k_is)
    (case q_a17 => k_is)
    (case q_l17 => k_is)
    (case q_c17 => k_is)
    (case q_k17 => k_is)
    (case q_a18 => k_is)
    (case q_l18 => k_is)
    (case q_c18 => k_is)
    (case q_k18 => k_is)
    (case q_a19 => k_is)
    (case q_l19 => k_is)
    (case q_c19 => k_is)
    (case q_k19 => k_is)
    (case q_a20 => k_is)
    (case q_l20 => k_is)
    (case q_c20 => k_is)
    (case q_k20 => k_is)
    (case q_a21 => k_is)
    (case q_l21 => k_is)
    (case q_c21 => k_is)
    (case q_k21 => k_is)
    (case q_a22 => k_is)
    (case q_l22 => k_is)
    (case q_c22 => k_is)
    (case q_k22 => k_is)
    (case q_z0 => k_is)
    (case q_z1 => k_is)
    (case q_z2 => k_is)
    (case q_z3 => k_is)
    (case q_z4 => k_is)
    (case q_z5 => k_is)
    (case q_z6 => k_is)
    (case q_z7 => k_is)
    (case q_z8 => k_is)
    (case q_z9 => k_is)
    (case q_z10 => k_is)
    (case q_z11 => k_is)
    (case q_z12 => k_is)
    (case q_z13 => k_is)
