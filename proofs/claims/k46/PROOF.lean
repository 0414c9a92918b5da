import PyProof.Rows.All
import Wide.All
import OpenK.AllK
import Wide.FinOn
import PyProof.EqAt
import PyProof.EqKinds
import PyProof.TupleCall
import Lean
import PyProof.DictWalks
import PyProof.DictIter
import PyProof.P3In
import KE.KEqSeq
import PyProof.ReprLen
import PyProof.ReprRoads
import PyProof.StrOps2
import KE.KRevSl
import PyProof.IsRules
import PyProof.StrLawsIdx
import PyProof.Rows.RegRepr
import PyProof.Rows.RegFStrParts
import PyProof.DictUpdate
import PyProof.AttrMissHeap
import PyProof.Walks
import KE.KDictOf
import PyProof.EnumIter
import PyProof.EnumFor
import PyProof.LayNew
import PyProof.EnumMake
import PyProof.Draws
import PyProof.WalksT
import PyProof.TupleIter
import PyProof.WalksMore
import KE.KRevIter
import KE.KEqDict
import PyProof.Rows.SetFrom
import PyProof.StrLawsTight
import PyProof.StrLawsChain
import PyProof.SumWalk
import PyProof.Rows.SortStr
import PyProof.Rows.SortWalk
import PyProof.TupleOfSeq
import KE.KDictSum
import KE.KSortTup
import PyProof.ListRange
import PyProof.ZipIter
import PyProof.Rows.ZipGen
import KE.KItemsList
import PyProof.ExcArgsOwn
import PyProof.InstStoreFacts
import PyProof.ExcBaseAll.ValueError
import PyProof.StationsW
import PyProof.RulesAs
import PyProof.RulesDel
import PyProof.NeKinds
import PyProof.ListMulAny
import KE.KMinBuiltin
import PyProof.Rows.CallKwBuiltin
import KE.KLam
import KE.KMinKey
import PyProof.WalkInts
import KE.KNestM
import PyProof.SeqI3
import KE.KSortKey
import PyProof.MaxThree
import PySem.Challenge.RW_halforder_k46_rows_by_last_and_first_one
local macro_rules | `(tactic| eq_refl) => `(tactic| with_unfolding_all exact Or.inl rfl)
local macro_rules | `(tactic| ac_rfl) => `(tactic| with_unfolding_all exact fun _ _ => rfl)
local macro_rules | `(tactic| ac_nf) => `(tactic| with_unfolding_all rfl)
noncomputable section
local macro_rules | `(⋯) => `(by ac_nf)
local macro_rules | `(∅) => `(by decide)
local macro_rules | `(tactic| symm) => `(tactic| walk_at "rd")
def A00:=@List.getElem?_eq_getElem
def A01:=@List.length_map
def A02:=@PySem.wpAny_bind
def A03:=@List.getElem?_eq_some_iff
def A04:=@PySem.Heap.get?_push_of_some
def A05:=@List.mem_of_getElem?
def A06:=@List.getElem?_map
def A07:=@PySem.wpAny_pure
def A08:=@List.length_append
def A09:=@PySem.Heap.lt_size
def A0A:=@List.mem_map
def A0B:=@Nat.le_refl
def A0C:=@Bool.false_ne_true
def A0D:=@decide_eq_true
def A0E:=@List.size_toArray
def A0F:=@PySem.Heap.get?_push_size
def A0G:=@List.mem_cons
def A0H:=@decide_eq_false
def A0I:=@List.mem_cons_of_mem
def A0J:=@if_neg
def A0K:=@if_pos
def A0L:=@List.all_eq_true
def A0M:=@Nat.le_trans
def A0N:=@Nat.ne_of_lt
def A0O:=@List.mem_append
def A0P:=@List.map_cons
def A0Q:=@List.mem_singleton
def A0R:=@List.map_append
def A0S:=@List.length_take
def A0T:=@PySem.sizeLine_eq
def A0U:=@List.take_add_one
def A0V:=@List.mem_filter
def A0W:=@Bool.and_eq_true
def A0X:=@List.length_cons
def A0Y:=@Nat.lt_of_lt_of_le
def A0Z:=@Option.map_eq_some_iff
def A10:=@Option.some.inj
def A11:=@beq_eq_false_iff_ne
def A12:=@List.nodup_cons
def A13:=@of_decide_eq_true
def A14:=@List.take_length
def A15:=@Bool.eq_iff_iff
def A16:=@List.mem_cons_self
def A17:=@List.getElem?_append_right
def A18:=@PySem.PassesOwn.never
def A19:=@PySem.wpAny_holding
def A1A:=@PySem.F.plainAttrs_list
def A1B:=@List.getElem?_append_left
def A1C:=@List.length_singleton
def A1D:=@List.length_eq_zero_iff
def A1E:=@PySem.wpAny_field
def A1F:=@PySem.W.kia_one
def A1G:=@List.mem_append_right
def A1H:=@List.map_map
def A1I:=@List.getElem_of_mem
def A1J:=@List.filter_cons
def A1K:=@List.length_filter_le
def A1L:=@List.lookup_cons
def A1M:=@decide_eq_true_eq
def A1N:=@List.length_drop
def A1O:=@Array.length_toList
def A1P:=@List.filter_sublist
def A1Q:=@PySem.wpAny_truthy_bool
def A1R:=@List.length_replicate
def A1S:=@List.length_range
def A1T:=@Nat.le_of_ble_eq_true
def A1U:=@PySem.Heap.size_push
def A1V:=@PyProof.Rows.callWith_type1
def A1W:=@Nat.zero_le
def A1X:=@List.getElem?_set_ne
def A1Y:=@List.mem_of_mem_take
def A1Z:=@List.getElem_inj
def A20:=@PySem.Heap.get?_update_other
def A21:=@List.getElem?_toArray
def A22:=@PySem.wpAny_mono
def A23:=@True.intro
def A24:=@PySem.wpAny_call_entry
def A25:=@PySem.wpAny_callSpecial?_slot
def A26:=@List.sum_cons
def A27:=@Nat.le_of_lt
def A28:=@List.mem_range
def A29:=@PySem.wpAny_seqItems
def A2A:=@PySem.wpAny_pyIter_list
def A2B:=@List.append_nil
def A2C:=@List.getD_eq_getElem?_getD
def A2D:=@Array.getElem?_eq_some_iff
def A2E:=@Nat.lt_irrefl
def A2F:=@List.any_cons
def A2G:=@PySem.wpAny_pyIter_tuple
def A2H:=@of_decide_eq_false
def A2I:=@PyProof.Rows.slot_tuple_getitem
def A2J:=@PySem.wpAny_newObj_type
def A2K:=@List.append_assoc
def A2L:=@PySem.wpAny_loadPart_at
def A2M:=@PySem.F.slot_list_append
def A2N:=@PySem.F.type_list_append
def A2O:=@Nat.ne_of_gt
def A2P:=@PySem.mem_of_lookup
def A2Q:=@List.replicate_succ
def A2R:=@Int.toNat_of_nonneg
def A2S:=@List.map_congr_left
def A2T:=@PySem.W.mg_of
def A2U:=@List.any_eq_true
def A2V:=@beq_iff_eq
def A2W:=@List.getElem?_set_self
def A2X:=@PySem.wpAny_Call_Name_kw
def A2Y:=@Int.emod_lt_of_pos
def A2Z:=@PySem.wpAny_passesOwn
def A30:=@List.nil_append
def A31:=@List.getElem?_eq_none
def A32:=@List.any_eq_false
def A33:=@List.nodup_append
def A34:=@Nat.lt_succ_of_lt
def A35:=@Or.inr
def A36:=@List.mem_of_mem_drop
def A37:=@PySem.wpAny_isInstance
def A38:=@Nat.le_add_right
def A39:=@Nat.le_succ
def A3A:=@List.not_lt
def A3B:=@List.filter_eq_self
def A3C:=@Nat.lt_or_ge
def A3D:=@PySem.Paired.length
def A3E:=@PySem.tupleKind_room_in1
def A3F:=@Nat.le_antisymm
def A3G:=@PySem.wpAny_getItem_str_slice
def A3H:=@PySem.W.tail_of_in
def A3I:=@List.contains_cons
def A3J:=@Int.emod_nonneg
def A3K:=@List.map_take
def A3L:=@List.take_of_length_le
def A3M:=@PySem.call_meets
def A3N:=@List.flatMap_cons
def A3O:=@Bool.not_eq_true'
def A3P:=@Array.getElem?_toList
def A3Q:=@Nat.lt_trans
def A3R:=@PySem.Heap.get?_update_self
def A3S:=@PySem.Obj.isFreed_of_fields
def A3T:=@List.all_map
def A3U:=@Nat.min_le_right
def A3V:=@List.mem_append_left
def A3W:=@PySem.Around.under_plainId
def A3X:=@PySem.W.looks_findIn
def A3Y:=@PySem.wpAny_onRaise
def A3Z:=@PySem.codeAny_builtin
def A40:=@PySem.wpAny_loadPart'
def A41:=@Array.perm_iff_toList_perm
def A42:=@PySem.Calls.spliced_cons
def A43:=@PySem.codeAny_mono
def A44:=@List.lookup_append
def A45:=@List.filter_append
def A46:=@PySem.Obj.data_mapFields
def A47:=@decide_eq_true_iff
def A48:=@Nat.mul_le_mul
def A49:=@List.pairwise_iff_getElem
def A4A:=@List.flatten_cons
def A4B:=@PySem.wpAny_dictEntries
def A4C:=@PySem.F.slot_list_extend
def A4D:=@PySem.F.type_list_extend
def A4E:=@List.getElem?_replicate
def A4F:=@Bool.false_or
def A4G:=@beq_self_eq_true
def A4H:=@PySem.wpAny_pyIter_zip
def A4I:=@PySem.Calls.callWith_builtin
def A4J:=@List.filter_eq_nil_iff
def A4K:=@PySem.wpAny_execs_nil
def A4L:=@List.of_mem_zip
def A4M:=@PySem.wpAny_typeOf
def A4N:=@List.foldl_cons
def A4O:=@PySem.F.slot_dict_get
def A4P:=@PySem.post_val_or_str
def A4Q:=@PySem.wpAny_notOrdered_dict
def A4R:=@List.any_map
def A4S:=@PySem.wpAny_call
def A4T:=@PySem.wpAny_rule
def A4U:=@PySem.SeqAt.EqAt.bool_bool
def A4V:=@PySem.Heap.get?_push_cases
def A4W:=@PySem.codeAny_call_builtin
def A4X:=@PySem.wpAny_updateSeq_pair
def A4Y:=@List.getElem?_of_mem
def A4Z:=@Bool.false_and
def A50:=@Bool.and_false
def A51:=@PySem.isSubtype_stop
def A52:=@List.getElem?_range
def A53:=@PySem.Heap.get?_update_ne
def A54:=@PySem.wpAny_isSubtype_exc
def A55:=@PySem.W.looks_mroIn
def A56:=@PySem.W.looks_clsIn
def A57:=@List.length_pos_iff
def A58:=@List.length_take_le
def A59:=@PySem.wpAny_standAt
def A5A:=@PySem.Code.quiet_builtin
def A5B:=@PySem.wpAny_attempt
def A5C:=@PySem.Value.ref.inj
def A5D:=@Nat.add_sub_cancel
def A5E:=@PySem.PlainL.isList
set_option linter.all false
set_option maxRecDepth 100000
set_option maxHeartbeats 4000000
set_option Elab.async false
set_option compiler.extract_closed false
namespace L2
open PySem PySem.Spec PyProof.Rows
variable {a b C:Addr}{op:CmpOp}{e tg:Expr}{pins:List (Addr×Obj)}{ch fp:List Addr}{body:List Stmt}{us:List Value}{M:Model}{t' i:Nat}{pos:Pos}{P:Program}{s:Shared}{x:Str}{u:Value}{E Q:Value->Shared->Prop}{f:Value->Value->Sem Value}
abbrev Key:=Sum Int Str
def Oy:Key->Value->Bool
 |.inl k,v=>Value.isInt k v
 |.inr x,v=>Value.isStrOf x v
def keyH (w:World):Key->Int
 |.inl k=>hashInt k
 |.inr x=>hashStr w x
def Bx:∀ {k:Key} {v:Value},Oy k v=true->(∃ i t,k=Sum.inl i/\v=Value.int i t)\/(∃ x t,k=Sum.inr x/\v=Value.str x t)
 |.inl i,v,h=>by obtain⟨t,e⟩:=Value.isInt_shape (k:=i) (v:=v) h;exact .inl ⟨i,t,rfl,e⟩
 |.inr x,v,h=>by obtain⟨t,e⟩:=Value.isStrOf_shape (x:=x) (v:=v) h;exact .inr ⟨x,t,rfl,e⟩
def Zz (i:Int)(t:Tok):Oy (.inl i) (.int i t)=true:=by simp[Oy,Value.isInt]
def Zw (x:Str)(t:Tok):Oy (.inr x) (.str x t)=true:=by simp[Oy,Value.isStrOf]
def aw9 (a b:Int):decide ((Sum.inl a:Key)=Sum.inl b)=(a==b):=by
 by_cases e:a=b
 . subst e;simp
 have h:¬ (Sum.inl a:Key)=Sum.inl b:=λq=>e (Sum.inl.inj q);rw[A0H h];exact(A11.mpr e).symm
def ay5 (a b:Str):decide ((Sum.inr a:Key)=Sum.inr b)=decide (a=b):=by
 by_cases e:a=b
 . subst e;simp
 have h:¬ (Sum.inr a:Key)=Sum.inr b:=λq=>e (Sum.inr.inj q);rw[A0H h,A0H e]
def av5 (a:Int)(b:Str):decide ((Sum.inl a:Key)=Sum.inr b)=false:=A0H (λq=>nomatch q)
def aA5 (a:Str)(b:Int):decide ((Sum.inr a:Key)=Sum.inl b)=false:=A0H (λq=>nomatch q)
def Ax (prog:Program)(w:World):PySem.KeyKind prog w Key where
 is:=Oy
 hash:=keyH w
 inj:=λv a b ha O=>by
  rcases Bx ha with ⟨i,t,rfl,rfl⟩|⟨x,t,rfl,rfl⟩
  . rcases Bx O with ⟨j,u,rfl,e⟩|⟨y,u,rfl,e⟩
    . injection e with e1 _;rw[e1]
    exact nomatch e
  rcases Bx O with ⟨j,u,rfl,e⟩|⟨y,u,rfl,e⟩
  . exact nomatch e
  injection e with e1 _;rw[e1]
 byValue:=λk v h=>by rcases Bx h with ⟨i,t,rfl,rfl⟩|⟨x,t,rfl,rfl⟩<;>rfl
 pyHash:=λF h=>by
  rcases Bx F with ⟨i,t,rfl,rfl⟩|⟨x,t,rfl,rfl⟩
  . exact wpAny_pyHash_int h
  exact wpAny_pyHash_str h
 eqBool:=λhu F h=>by
  rcases Bx hu with ⟨i,t,rfl,rfl⟩|⟨x,t,rfl,rfl⟩
  . rcases Bx F with ⟨j,u,rfl,rfl⟩|⟨y,u,rfl,rfl⟩
    . rw[aw9] at h;exact wpAny_eqBool_int h
    rw[av5] at h;exact SeqAt.EqAt.int_str i t y u _ _ _ _ h
  rcases Bx F with ⟨j,u,rfl,rfl⟩|⟨y,u,rfl,rfl⟩
  . rw[aA5] at h;exact SeqAt.EqAt.str_int x t j u _ _ _ _ h
  rw[ay5] at h;exact wpAny_eqBool_str h
 «strs»:=λk x t v h=>by
  rcases Bx h with ⟨i,u,rfl,e⟩|⟨y,u,rfl,e⟩
  . exact nomatch e
  injection e with e1 _;subst e1
  cases v<;>rfl
def Tr (prog:Program)(w:World)(i:Int)(t:Tok):(Ax prog w).is (.inl i) (.int i t)=true:=Zz i t
def T6 (prog:Program)(w:World)(x:Str)(t:Tok):(Ax prog w).is (.inr x) (.str x t)=true:=Zw x t
inductive V where
 |non | bl (b:Bool) | int (i:Int) | str (x:Str) | byt (b:Array UInt8) | flt (b:UInt64) | ref (a:Addr) | ty (n:String)
 deriving DecidableEq
variable {v:V}
def RelV:V->Value->Prop
 |.non,u=>u=Value.none
 |.bl b,u=>u=Value.bool b
 |.int i,u=>∃ t,u=Value.int i t
 |.str x,u=>∃ t,u=Value.str x t
 |.byt b,u=>∃ t,u=Value.bytes b t
 |.flt b,u=>∃ t,u=Value.float b t
 |.ref a,u=>u=Value.ref a
 |.ty n,u=>u=Value.type n
abbrev Vals:List V->List Value->Prop:=Paired RelV
theorem Vals.length {xs:List V}  (r:Vals xs us):xs.length=us.length:=A3D r
theorem Vals.get:∀ {xs:List V} {us:List Value} {i:Nat} {x:V},Vals xs us->xs[i]? = some x->∃ u,us[i]? = some u/\RelV x u
 |_,_,_,_,.nil,e=>by simp at e
 |_,_,0,_,.cons r _,e=>by simp at e;subst e;exact⟨_,rfl,r⟩
 |_,_,i+1,x,.cons _ t,e=>by obtain⟨u,h1,h2⟩:=Vals.get (i:=i) (x:=x) t (by simpa using e);exact⟨u,by simpa using h1,h2⟩
theorem Vals.append:∀ {xs ys:List V} {us F:List Value},Vals xs us->Vals ys F->Vals (xs++ys) (us++F)
 |_,_,_,_,.nil,s=>s
 |_,_,_,_,.cons r t,s=>.cons r (Vals.append t s)
theorem Vals.take:∀ {xs:List V} {us:List Value} (n:Nat),Vals xs us->Vals (xs.take n) (us.take n)
 |_,_,0,_=>.nil
 |_,_,_+1,.nil=>.nil
 |_,_,n+1,.cons r t=>.cons r (Vals.take n t)
theorem Vals.drop:∀ {xs:List V} {us:List Value} (n:Nat),Vals xs us->Vals (xs.drop n) (us.drop n)
 |_,_,0,r=>r
 |_,_,_+1,.nil=>.nil
 |_,_,n+1,.cons _ t=>Vals.drop n t
def RelO:Option V->Option Value->Prop
 |some v,some u=>RelV v u
 |none,none=>True
 |_,_=>False
def KV {κ:Type}:List (κ×V)->List (κ×Value)->Prop:=Paired λ(p:κ×V) (q:κ×Value)=>p.1=q.1/\RelV p.2 q.2
def kV:Key->V
 |.inl i=>.int i
 |.inr x=>.str x
def IsTupN (h:Heap)(a:Addr)(items:Array Value):Prop:=∃ o,h.get? a=some o/\o.cls = .type "tuple" /\ (∃ n,o.data = .seq items n)/\o.dict=none
def IsTupN.tup {h:Heap}{items:Array Value}(x:IsTupN h a items):IsTup h a items:=let ⟨o,h1,h2,⟨n,h3⟩,_⟩:=x;⟨o,h1,h2,n,h3⟩
def IsTupN.new (h:Heap)(F:Array Value):IsTupN (h.push {cls:=.type "tuple",data:=.seq F}) h.objs.size F:=⟨_,A0F _ rfl,rfl,⟨_,rfl⟩,rfl⟩
inductive HO where
 |lst (xs:List V)
 |tup (xs:List V)
 |dK (kvs:List (Key×V)) | dT (kvs:List (List Key×V))
 |set (S:Int->Bool) (n:Nat)
 |ins (C dx:Addr) (fs:List (Str×V))
 |own (x:Addr)
 |xd (fs:List (Str×V))
 |met (f x:Addr)
 |rng (lo hi:Int)
 |frz (o:Obj) (u:HO)
 |tbl (ps:Array Value)
 |ext (φ:Heap->Prop)
abbrev Hp:=Addr->Option HO
variable {H:Hp}
def upd (H:Hp)(a:Addr)(o:HO):Hp:=λb=>if b=a then some o else H b
def Aj {o:HO}:upd H a o a=some o:=by unfold upd;rw[if_pos rfl]
def Ay {o:HO}(h:b≠a):upd H a o b=H b:=by unfold upd;rw[if_neg h]
def ne_of {o u:HO}(h:H a=some o)(h':H b=some u)(d:o≠u):a≠b:=by intro e;subst e;rw[h] at h';exact d (A10 h')
def ne_of_none {o:HO}(h:H a=some o)(h':H b=none):a≠b:=by intro e;subst e;rw[h] at h';cases h'
section
variable (P:Program)(w:World)
def ObjOk (H:Hp)(h:Heap)(a:Addr):HO->Prop
 |.lst xs=>xs.length<=sizeLine/\∃(F:List Value) (n:Nat),Vals xs F/\h.get? a=some {cls:=.type "list",data:=.seq F.toArray n}
 |.tup xs=>xs.length<=sizeLine/\∃ F:List Value,Vals xs F/\IsTupN h a F.toArray
 |.dK kvs=>kvs.length<=sizeLine/\(a==sysModules)=false/\∃ vs,KV kvs vs/\h.DictOf (Ax P w) a vs
 |.dT kvs=>kvs.length<=sizeLine/\(a==sysModules)=false/\∃ xs:List (List Key×Addr×Value),
  Paired (λ(p:List Key×V) (q:List Key×Addr×Value)=>p.1=q.1/\H q.2.1=some (.tup (p.1.map kV))/\RelV p.2 q.2.2) kvs xs /\
  ∃ o es O,h.get? a=some o/\o.ExactDict/\o.data = .dict es O/\es.toList=xs.map (entryOfKey (tupleKind (Ax P w)))/\(xs.map (·.1)).Nodup
 |.set S n=>h.SetOf (intKind P w) a S n
 |.ins C dx fs=>H dx=some (.own a)/\fs.length<=1000/\dx≠a/\h.get? a=some (W.instObj C dx) /\
  ∃ mA,h.Ns1 dx mA/\(∀ f,RelO (fs.lookup f) (mA f))/\PySem.Within mA (fs.map (·.1))
 |.own _=>∃ o,h.get? a=some o
 |.xd fs=>∃ mA,h.Ns1 a mA/\∀ f,RelO (fs.lookup f) (mA f)
 |.rng lo hi=>∃ t u v,h.get? a=some {cls:=.type "range",data:=.fields #[.int lo t,.int hi u,.int 1 v]}
 |.frz o u=>h.get? a=some o/\ObjOk H h a u
 |.tbl ps=>h.get? a=some {cls:=.none,data:=.fields ps}
 |.met f x=>h.get? a=some (W.methodObj (.ref f) (.ref x))
 |.ext φ=>φ h/\(∃ o,h.get? a=some o)/\∀ h1 h2:Heap,φ h1->(∀ o,h1.get? a=some o->h2.get? a=some o)->φ h2
def HOk (H:Hp)(h:Heap):Prop:=∀ a o,H a=some o->ObjOk P w H h a o
end
section
variable {w:World}{H':Hp}{h h':Heap}{o:HO}
theorem ObjOk.lt (x:ObjOk P w H h a o):a<h.objs.size:=by
 cases o with
 |lst xs=>obtain⟨_,_,_,_,e⟩:=x;exact A09 e
 |tup xs=>obtain⟨_,_,_,p⟩:=x;exact p.tup.lt
 |dK kvs=>obtain⟨_,_,_,_,o,_,_,e,_⟩:=x;exact A09 e
 |dT kvs=>obtain⟨_,_,_,_,o,_,_,e,_⟩:=x;exact A09 e
 |set S n=>obtain⟨o,_,_,_,e,_⟩:=x;exact A09 e
 |ins C dx fs=>obtain⟨_,_,_,e,_⟩:=x;exact A09 e
 |own y=>obtain⟨_,e⟩:=x;exact A09 e
 |xd fs=>obtain⟨_,⟨_,_,_,e,_⟩,_⟩:=x;exact A09 e
 |rng lo hi=>obtain⟨_,_,_,e⟩:=x;exact A09 e
 |frz ob u=>obtain⟨e,_⟩:=x;exact A09 e
 |tbl ps=>exact A09 (show h.get? a=some _ from x)
 |met f y=>exact A09 (show h.get? a=some _ from x)
 |ext φ=>obtain⟨_,⟨_,e⟩,_⟩:=x;exact A09 e
theorem Paired.mapP {α β:Type}{F G:α->β->Prop}:∀ {O:List α} {U:List β},Paired F O U->(∀ a b,F a b->G a b)->Paired G O U
 |_,_,.nil,_=>.nil
 |_,_,.cons r t,f=>.cons (f _ _ r) (Paired.mapP t f)
theorem ObjOk.stay (x:ObjOk P w H h a o)(k:∀ b u,(b=a\/H b=some (.own a))->h.get? b=some u->h'.get? b=some u)
 (Z:∀ b,H b=some (.own a)->H' b=some (.own a)) (ht:∀ b xs,H b=some (.tup xs)->H' b=some (.tup xs)):ObjOk P w H' h' a o:=by
 induction o with
 |lst xs=>obtain⟨z,U,n,r,e⟩:=x;exact⟨z,U,n,r,k _ _ (.inl rfl) e⟩
 |tup xs=>obtain⟨z,U,r,F,e,c⟩:=x;exact⟨z,U,r,F,k _ _ (.inl rfl) e,c⟩
 |dK kvs=>obtain⟨z,y,vs,r,F,es,O,e,c⟩:=x;exact⟨z,y,vs,r,F,es,O,k _ _ (.inl rfl) e,c⟩
 |dT kvs=>obtain⟨z,y,xs,r,F,es,O,e,c⟩:=x;exact⟨z,y,xs,Paired.mapP r λp q z=>⟨z.1,ht _ _ z.2.1,z.2.2⟩,F,es,O,k _ _ (.inl rfl) e,c⟩
 |set S n=>obtain⟨F,es,O,t,e,c⟩:=x;exact⟨F,es,O,t,k _ _ (.inl rfl) e,c⟩
 |ins C dx fs=>obtain⟨d,z,ne,e,mA,⟨od,es,O,Y,c⟩,r⟩:=x;exact⟨Z _ d,z,ne,k _ _ (.inl rfl) e,mA,⟨od,es,O,k _ _ (.inr d) Y,c⟩,r⟩
 |own y=>obtain⟨F,e⟩:=x;exact⟨F,k _ _ (.inl rfl) e⟩
 |xd fs=>obtain⟨mA,⟨od,es,O,e,c⟩,r⟩:=x;exact⟨mA,⟨od,es,O,k _ _ (.inl rfl) e,c⟩,r⟩
 |rng lo hi=>obtain⟨t,u,v,e⟩:=x;exact⟨t,u,v,k _ _ (.inl rfl) e⟩
 |frz F u ih=>obtain⟨e,q⟩:=x;exact⟨k _ _ (.inl rfl) e,ih q⟩
 |tbl ps=>have e:h.get? a=some {cls:=.none,data:=.fields ps}:=x;show h'.get? a=some {cls:=.none,data:=.fields ps};exact k a _ (.inl rfl) e
 |met f y=>have e:h.get? a=some (W.methodObj (.ref f) (.ref y)):=x;show h'.get? a=some (W.methodObj (.ref f) (.ref y));exact k a _ (.inl rfl) e
 |ext φ=>obtain⟨p,⟨o,e⟩,st⟩:=x;exact⟨st _ _ p λo q=>k _ _ (.inl rfl) q,⟨o,k _ _ (.inl rfl) e⟩,st⟩
theorem HOk.lt (x:HOk P w H h)(e:H a=some o):a<h.objs.size:=(x a o e).lt
def HOk.fresh (x:HOk P w H h)(e:h.objs.size<=a):H a=none:=by
 cases q:H a with
 |none=>rfl
 |some u=>exact absurd (A0Y (x.lt q) e) (A2E _)
def HOk.kept (x:HOk P w H h)(k:∀ b u,h.get? b=some u->h'.get? b=some u):HOk P w H h':=λa o e=>
 (x a o e).stay (λb u _ q=>k b u q) (λ_ q=>q) λ_ _ q=>q
def HOk.laid (x:HOk P w H h)(k:∀ b u,h.get? b=some u->h'.get? b=some u)(O:h.objs.size<=a)(new:ObjOk P w (upd H a o) h' a o):HOk P w (upd H a o) h':=λb u e=>by
 have hn:=x.fresh O
 by_cases F:b=a
 . subst F;rw[Aj] at e;cases e;exact new
 rw[Ay F] at e;exact(x b u e).stay (λc v _ q=>k c v q) (λc q=>by rw[Ay (ne_of_none q hn)];exact q) λc xs q=>by rw[Ay (ne_of_none q hn)];exact q
end
def Rd (H:Hp)(a:Addr)(u:HO):Prop:=H a=some u\/∃ o,H a=some (.frz o u)
def Rd.ok {w:World}{h:Heap}{u:HO}(r:Rd H a u)(x:HOk P w H h):ObjOk P w H h a u:=by
 rcases r with r|⟨o,r⟩
 . exact x a u r
 obtain⟨_,q⟩:=x a _ r;exact q
def Mut:Option HO->Prop
 |some (.lst _)=>True
 |some (.dK _)=>True
 |some (.dT _)=>True
 |some (.set _ _)=>True
 |some (.ins _ _ _)=>True
 |some (.ext _)=>True
 |_=>False
section
variable {w:World}{h h':Heap}{x e:Addr}{o':HO}
theorem HOk.write (ok:HOk P w H h)(Y:Mut (H x))(Z:e=x\/H e=some (.own x))(k:∀ b u,b≠e->h.get? b=some u->h'.get? b=some u)(a1:∃ u,h'.get? e=some u)
 (new:ObjOk P w (upd H x o') h' x o'):HOk P w (upd H x o') h':=λb u q=>by
 have a0:∀ c y,H c=some (.own y)->c≠x:=λc y r z=>by subst z;rw[r] at Y;exact Y
 have a2:∀ c xs,H c=some (.tup xs)->c≠x:=λc xs r z=>by subst z;rw[r] at Y;exact Y
 by_cases F:b=x
 . subst F;rw[Aj] at q;cases q;exact new
 rw[Ay F] at q
 by_cases O:b=e
 . have q':H b=some (.own x):=by
    rcases Z with z|z
    . exact absurd (O.trans z) F
    rw[O];exact z
   rw[q] at q';cases q';obtain⟨v,hv⟩:=a1;exact⟨v,by rw[O];exact hv⟩
 refine(ok b u q).stay (λc v U r=>k c v ?_ r) (λc r=>by rw[Ay (a0 c b r)];exact r) λc xs r=>by rw[Ay (a2 c xs r)];exact r
 rcases U with rfl|U
 . exact O
 rintro rfl;rcases Z with z|z
 . exact a0 c b U z
 rw[U] at z;cases z;exact F rfl
end
structure Un (fs ex:List Addr)(H H':Hp)(h h':Heap):Prop where
 keep:∀ b o,h.get? b=some o->H b=none->b∉fs->b∉ex->h'.get? b=some o
 slot:∀ b o,h.get? b=some o->H b=none->b∈fs->b∉ex->∃ sl,h'.get? b=some {o with slots:=sl}
 free:∀ b o,h.get? b=some o->H b=none->b∉ex->H' b=none
 there:∀ b o,h.get? b=some o->b∉ex->∃ o',h'.get? b=some o'
 tups:∀ b xs,H b=some (.tup xs)->H' b=some (.tup xs)
 frzs:∀ b o u,H b=some (.frz o u)->H' b=some (.frz o u)
 tbls:∀ b ps,H b=some (.tbl ps)->∃ more,H' b=some (.tbl (ps++more))
section
variable {fs fs' ex ex':List Addr}{H1 H2:Hp}{h h1 h2 h':Heap}{x e:Addr}{o:HO}
def Un.any (u:Un fs ex H H1 h h1){F:Obj}(q:h.get? b=some F)(n:H b=none)(U:b∉ex):∃ Y,h1.get? b=some {F with slots:=Y}:=by
 by_cases O:b∈fs
 . exact u.slot b F q n O U
 exact⟨F.slots,u.keep b F q n O U⟩
def Un.kept (k:∀ b u,h.get? b=some u->h'.get? b=some u):Un fs ex H H h h':=
 ⟨λb F q _ _ _=>k b F q,λb F q _ _ _=>⟨F.slots,k b F q⟩,λ_ _ _ n _=>n,λb F q _=>⟨F,k b F q⟩,λ_ _ q=>q,λ_ _ _ q=>q,λ_ ps q=>⟨#[],by rw[q];simp⟩⟩
def Un.refl:Un fs ex H H h h:=Un.kept λ_ _ q=>q
def Un.laid (k:∀ b u,h.get? b=some u->h'.get? b=some u)(F:h.objs.size<=a)(hn:H a=none):Un fs ex H (upd H a o) h h' where
 keep:=λb u q _ _ _=>k b u q
 slot:=λb u q _ _ _=>⟨u.slots,k b u q⟩
 free:=λb u q n _=>by rw[Ay (A0N (A0Y (A09 q) F))];exact n
 there:=λb u q _=>⟨u,k b u q⟩
 tups:=λb xs q=>by rw[Ay (ne_of_none q hn)];exact q
 frzs:=λb u xs q=>by rw[Ay (ne_of_none q hn)];exact q
 tbls:=λb ps q=>⟨#[],by rw[Ay (ne_of_none q hn),q];simp⟩
theorem Un.write (F:Mut (H x))(Z:e=x\/H e=some (.own x))(k:∀ b u,b≠e->h.get? b=some u->h'.get? b=some u)(a0:∃ u,h'.get? e=some u):Un fs ex H (upd H x o) h h':=by
 have Y:∀ b,H b=none->b≠x:=λb n z=>by subst z;rw[n] at F;exact F
 have O:∀ b,H b=none->b≠e:=λb n z=>by
  subst z;rcases Z with r|r
  . exact Y b n r
  rw[n] at r;cases r
 have hm:∀ b u,H b=some u->¬ Mut (some u)->b≠x:=λb u q nm z=>by subst z;rw[q] at F;exact nm F
 refine⟨λb u q n _ _=>k b u (O b n) q,λb u q n _ _=>⟨u.slots,k b u (O b n) q⟩,λb u q n _=>by rw[Ay (Y b n)];exact n,λb u q _=>?_,
  λb xs q=>by rw[Ay (hm b _ q λz=>z)];exact q,λb u xs q=>by rw[Ay (hm b _ q λz=>z)];exact q,λb ps q=>⟨#[],by rw[Ay (hm b _ q λz=>z),q];simp⟩⟩
 by_cases U:b=e
 . subst U;exact a0
 exact⟨u,k b u U q⟩
end
def trk (h:Heap)(H:Hp):List Addr:=(List.range h.objs.size).filter λa=>(H a).isSome
def a39 (h:Heap)(H:Hp):Heap:=W.hideAll h (trk h H)
def a00 (h:Heap)(H:Hp):(a39 h H).objs.size=h.objs.size:=W.hideAll_size _ _
def a25 {h:Heap}{o:Obj}(e:h.get? b=some o)(n:H b=none):(a39 h H).get? b=some o:=
 W.hideAll_get _ e λhm=>by have q:(H b).isSome=true:=(A0V.mp hm).2;rw[n] at q;simp at q
def ae2 {h:Heap}{o:Obj}(e:(a39 h H).get? b=some o):h.get? b=some o/\H b=none:=by
 have F:h.get? b=some o:=W.of_hideAll (trk h H) e;refine⟨F,?_⟩
 cases q:H b with
 |none=>rfl
 |some x=>have hm:b∈trk h H:=List.mem_filter.mpr ⟨List.mem_range.mpr (Heap.lt_size F),by simp[q]⟩;have z:(a39 h H).get? b=none:=W.hideAll_none (trk h H) hm;rw[z] at e;cases e
def ad5 (g h:Heap)(L:Addr):List (Addr×Obj):=(List.range h.objs.size).filterMap λa=>if a=L\/(g.get? a).isSome=true then none else(h.get? a).map λo=>(a,o)
def rest (g h:Heap)(L d:Addr):List (Addr×Obj):=(ad5 g h L).filter λp=>decide (p.1≠d)
structure Mod (K:W.Frag)(mg:Str->Option Value)(base:Heap):Prop where
 kin:K.In base
 glob:base.Ns mainGlobals mg
 blt:∃ mb,base.Ns builtinsNs mb/\∀ x:Str,x ≠ "__name__" -> mb x=bootBuiltins x
 nolimit:base.NoLimit
/-- the context: a def's body (or a comprehension's block) running. base: fixed through the whole law;s₀,H₀: the entry;outer: the frames whose slots others may change (a def's callers);stack: all frames that run;
 ex: iterators that were made ahead of the entry and are walked here (a comprehension's);fn: the names whose cells were made at the entry (a def: all;a comprehension's block: its own);calm: not within an except suite;pn: pins that every state bears;xe: what is wanted of an exception that leaves the code -/
structure Cx where
 prog:Program
 w:World
 K:W.Frag
 mg:Str->Option Value
 base:Heap
 A:Around
 N:List Str
 s₀:Shared
 H₀:Hp
 env:Env
 outer:List Env
 stack:List Env
 ex:List Addr
 fn:Str->Bool
 calm:Bool
 pn:List (Addr×Obj)
 xe:Value->Shared->Prop
variable {X:Cx}
def frs (l:List Env):List Addr:=l.filterMap (·.frame)
abbrev Cx.fs (X:Cx):List Addr:=frs X.outer
def Vis (sc:Scope)(x:Str):Prop:=sc.names.lookup x=some .local\/sc.names.lookup x=some .cell\/sc.names.lookup x=some .free
def Loc (sc:Scope)(x:Str):Prop:=sc.names.lookup x=some .local\/sc.names.lookup x=some .cell
def Look (env:Env)(h:Heap)(m:Str->Option Value)(x:Str)(u:Value):Prop:=
 (env.kindOf x=some .local/\m x=some u)\/((env.kindOf x=some .cell\/env.kindOf x=some .free)/\∃ c,env.cells.lookup x=some c/\h.IsCell c (some u))
structure Cx.Ok (X:Cx):Prop where
 mod:Mod X.K X.mg X.base
 kind:X.env.scope.kind = .function
 glob:X.env.globals=mainGlobals
 blt:X.env.builtins=builtinsNs
 above:X.s₀.heap.objs.size<=X.env.locals
 inj:∀ x y c,X.env.cells.lookup x=some c->X.env.cells.lookup y=some c->x=y
 has:∀ x,(X.env.kindOf x=some .cell\/X.env.kindOf x=some .free)->∃ c,X.env.cells.lookup x=some c
 cab:∀ x c,X.fn x=true->X.env.cells.lookup x=some c->X.s₀.heap.objs.size<=c
 hd:X.calm=true->X.A.handled=none
 frames:X.A.frames=some X.stack
 stk:X.stack=X.outer\/(X.stack=X.env :: X.outer/\X.env.frame=some X.env.locals)
 exf:∀ b∈X.ex,b≠X.env.locals/\∀ x c,X.env.cells.lookup x=some c->c≠b
 bs:∀ b o,X.base.get? b=some o->X.s₀.heap.get? b=some o/\X.H₀ b=none
 bsz:X.base.objs.size<=X.s₀.heap.objs.size
 noex:∀ b o,X.base.get? b=some o->b∉X.ex
 exfs:∀ b∈X.ex,b∉X.fs
 funs:X.s₀.heap.FunFrames X.base X.outer
 frf:∀ b∈X.fs,X.H₀ b=none
structure Inv (X:Cx)(pins:List (Addr×Obj))(σ:List (Option V))(H:Hp)(s:Shared):Prop where
 ok:X.Ok
 os:s.os=X.s₀.os
 bare:AllBare s.gens
 base:Un X.fs X.ex X.H₀ H X.s₀.heap s.heap
 loc:∃ m,s.heap.Ns X.env.locals m/\∀(i:Nat) (x:Str) (v:V),X.N[i]? = some x->σ[i]? = some (some v)->Vis X.env.scope x->∃ u,RelV v u/\Look X.env s.heap m x u
 cell:∀ x c,X.env.cells.lookup x=some c->∃ v,s.heap.IsCell c v
 free:H X.env.locals=none
 freeC:∀ x c,X.env.cells.lookup x=some c->H c=none
 pin:∀ p∈X.pn++pins,s.heap.get? p.1=some p.2/\H p.1=none/\p.1≠X.env.locals/\p.1∉X.fs/\∀ v,p.2.data ≠ .cell v
 hok:HOk X.prog X.w H s.heap
 len:σ.length=X.N.length
section
variable {σ:List (Option V)}{H':Hp}{h':Heap}
def Cx.Ok.nofr (ok:X.Ok){o:Obj}(e:X.base.get? b=some o):b∉X.fs:=λF=>by have:=(ok.funs.mem F).1;rw[e] at this;cases this
theorem Inv.bs (I:Inv X pins σ H s):∀ b o,X.base.get? b=some o->s.heap.get? b=some o/\H b=none:=λb o e=>
 ⟨I.base.keep b o (I.ok.bs b o e).1 (I.ok.bs b o e).2 (I.ok.nofr e) (I.ok.noex b o e),I.base.free b o (I.ok.bs b o e).1 (I.ok.bs b o e).2 (I.ok.noex b o e)⟩
def Inv.bk (I:Inv X pins σ H s):∀ b o,X.base.get? b=some o->s.heap.get? b=some o:=λb o e=>(I.bs b o e).1
theorem Inv.mod (I:Inv X pins σ H s):Mod X.K X.mg X.base:=I.ok.mod
def Inv.kIn (I:Inv X pins σ H s):X.K.In s.heap:=I.ok.mod.kin.keeps I.bk
theorem Inv.lt (I:Inv X pins σ H s):X.env.locals<s.heap.objs.size:=let ⟨_,hn,_⟩:=I.loc;hn.lt
def Inv.sz (I:Inv X pins σ H s):X.s₀.heap.objs.size<=s.heap.objs.size:=A0M I.ok.above (A27 I.lt)
def Inv.nofs (I:Inv X pins σ H s)(h:s.heap.objs.size<=a):a∉X.fs:=λF=>by obtain⟨_,o,O,_⟩:=I.ok.funs.mem F;exact absurd (A0Y (A09 O) (A0M I.sz h)) (A2E _)
def Inv.cne (I:Inv X pins σ H s):∀ x c,X.env.cells.lookup x=some c->c≠X.env.locals:=λx c e z=>by obtain⟨v,o,F,hd⟩:=I.cell x c e;obtain⟨m,⟨o',es,Y,U,O,_⟩,_⟩:=I.loc;rw[z,U] at F;cases F;rw[O] at hd;cases hd
theorem Inv.funs (I:Inv X pins σ H s):s.heap.FunFrames X.base X.outer:=by
 have all:∀(l:List Env),(∀ b∈frs l,b∈X.fs)->X.s₀.heap.FunFrames X.base l->s.heap.FunFrames X.base l:=by
  intro l
  induction l with
  |nil=>intro _ _;trivial
  |cons env r ih=>intro hs hl;obtain⟨U,⟨L,o,hf,hn,Y,hd⟩,Z⟩:=hl;have F:L∈X.fs:=hs L (by unfold frs;rw[List.filterMap_cons,hf];exact List.mem_cons_self);obtain⟨sl,e⟩:=I.base.slot L o Y (I.ok.frf L F) F λz=>I.ok.exfs L z F;exact⟨U,⟨L,_,hf,hn,e,hd⟩,ih (λb O=>hs b (by unfold frs;rw[List.filterMap_cons,hf];exact List.mem_cons_of_mem _ O)) Z⟩
 exact all X.outer (λ_ O=>O) I.ok.funs
theorem Inv.stack (I:Inv X pins σ H s):s.heap.FunFrames X.base X.stack:=by
 rcases I.ok.stk with e|⟨e,hf⟩
 . rw[e];exact I.funs
 rw[e];obtain⟨m,hn,_⟩:=I.loc;refine .cons (by rw[I.ok.kind];decide) hf hn ?_ I.funs;exact Heap.get?_none_of_le (A0M I.ok.bsz I.ok.above)
def Inv.stkSub (I:Inv X pins σ H s):∀ b∈frs X.stack,b∈X.env.locals :: X.fs:=λb F=>by
 rcases I.ok.stk with e|⟨e,hf⟩
 . rw[e] at F;exact A0I _ F
 rw[e] at F;unfold frs at F;rw[List.filterMap_cons,hf] at F;exact F
def Inv.stkFree (I:Inv X pins σ H s):∀ b∈frs X.stack,H b=none:=λb F=>by
 rcases A0G.mp (I.stkSub b F) with e|F
 . rw[e];exact I.free
 obtain⟨_,o,O,_⟩:=I.ok.funs.mem F;exact I.base.free b o O (I.ok.frf b F) λz=>I.ok.exfs b z F
theorem Inv.step {g':Array GenState}{d':Drawn}(I:Inv X pins σ H s)
 (a0:∀ b∈ch,(b∈X.ex\/X.s₀.heap.objs.size<=b)/\b≠X.env.locals/\(∀ x c,X.env.cells.lookup x=some c->c≠b)/\∀ p∈X.pn++pins,p.1≠b)
 (keep:∀ b o,b≠X.env.locals->b∉X.fs->b∉ch->s.heap.get? b=some o->H b=none->h'.get? b=some o)
 (slot:∀ b o,b≠X.env.locals->b∈X.fs->b∉ch->s.heap.get? b=some o->H b=none->∃ sl,h'.get? b=some {o with slots:=sl}) (free:∀ b o,b∉ch->s.heap.get? b=some o->H b=none->H' b=none)
 (there:∀ b o,b∉ch->s.heap.get? b=some o->∃ o',h'.get? b=some o')
 (tups:∀ b xs,H b=some (.tup xs)->H' b=some (.tup xs)) (frzs:∀ b o u,H b=some (.frz o u)->H' b=some (.frz o u)) (tbls:∀ b ps,H b=some (.tbl ps)->∃ more,H' b=some (.tbl (ps++more)))
 (ns:∀ m,s.heap.Ns X.env.locals m->h'.Ns X.env.locals m) (hok:HOk X.prog X.w H' h') (hg:AllBare g') :
 Inv X pins σ H' {s with heap:=h',gens:=g',drawn:=d',toks:=t'}:=by
 have a4:∀ b o,X.s₀.heap.get? b=some o->b≠X.env.locals:=λb o e=>A0N (A0Y (A09 e) I.ok.above)
 have a2:∀ b o,X.s₀.heap.get? b=some o->b∉X.ex->b∉ch:=λb o e F U=>by
  rcases(a0 b U).1 with z|z
  . exact F z
  exact absurd (A0Y (A09 e) z) (A2E _)
 have a3:∀ x c,X.env.cells.lookup x=some c->∀ v,s.heap.IsCell c v->h'.IsCell c v:=λx c e v ⟨o,Y,hd⟩=>by
  have a1:c∉ch:=λz=>(a0 c z).2.2.1 x c e rfl
  by_cases hc:c∈X.fs
  . obtain⟨sl,q⟩:=slot c o (I.cne x c e) hc a1 Y (I.freeC x c e);exact⟨_,q,hd⟩
  exact⟨o,keep c o (I.cne x c e) hc a1 Y (I.freeC x c e),hd⟩
 refine⟨I.ok,I.os,hg,⟨λb o e n U F=>?_,λb o e n U F=>?_,λb o e n F=>?_,λb o e F=>?_,λb xs e=>tups b xs (I.base.tups b xs e),λb o xs e=>frzs b o xs (I.base.frzs b o xs e),λb ps e=>?_⟩,?_,λx c e=>?_,?_,λx c e=>?_,λp hp=>?_,hok,I.len⟩
 . exact keep b o (a4 b o e) U (a2 b o e F) (I.base.keep b o e n U F) (I.base.free b o e n F)
 . obtain⟨sl,O⟩:=I.base.slot b o e n U F;obtain⟨a5,Z⟩:=slot b _ (a4 b o e) U (a2 b o e F) O (I.base.free b o e n F);exact⟨a5,Z⟩
 . obtain⟨o',O⟩:=I.base.there b o e F;exact free b o' (a2 b o e F) O (I.base.free b o e n F)
 . obtain⟨o',O⟩:=I.base.there b o e F;exact there b o' (a2 b o e F) O
 . obtain⟨m1,O⟩:=I.base.tbls b ps e;obtain⟨m2,Z⟩:=tbls b _ O;exact⟨m1++m2,by rw[Z,Array.append_assoc]⟩
 . obtain⟨m,hn,hl⟩:=I.loc;refine⟨m,ns m hn,λi x v O Z e3=>?_⟩;obtain⟨u,r,l⟩:=hl i x v O Z e3;refine⟨u,r,?_⟩;rcases l with l|⟨k,c,e,z⟩
   . exact .inl l
   exact .inr ⟨k,c,e,a3 x c e _ z⟩
 . obtain⟨v,z⟩:=I.cell x c e;exact⟨v,a3 x c e v z⟩
 . obtain⟨m,⟨o,_,_,Y,_⟩,_⟩:=I.loc;exact free _ o (λz=>(a0 _ z).2.1 rfl) Y I.free
 . obtain⟨v,o,Y,hd⟩:=I.cell x c e;exact free c o (λz=>(a0 c z).2.2.1 x c e rfl) Y (I.freeC x c e)
 obtain⟨e,n,ne,nf,d⟩:=I.pin p hp;have a1:p.1∉ch:=λz=>(a0 p.1 z).2.2.2 p hp rfl;exact⟨keep p.1 p.2 ne nf a1 e n,free p.1 p.2 a1 e n,ne,nf,d⟩
def Inv.un (I:Inv X pins σ H s)(u:Un X.fs [] H H' s.heap h')(hok:HOk X.prog X.w H' h'):Inv X pins σ H' {s with heap:=h',toks:=t'}:=by
 obtain⟨m,⟨o,es,ep,O,r⟩,_⟩:=id I.loc;obtain⟨sl,hL⟩:=u.any O I.free (by simp)
 exact I.step (g':=s.gens) (d':=s.drawn) (ch:=[]) (λ_ z=>nomatch z) (λb o _ F _ e n=>u.keep b o e n F (by simp)) (λb o _ F _ e n=>u.slot b o e n F (by simp)) (λb o _ e n=>u.free b o e n (by simp)) (λb o _ e=>u.there b o e (by simp)) u.tups u.frzs u.tbls (λm' hm=>by obtain⟨o',Z,Y,U,r'⟩:=hm;rw[O] at U;cases U;exact⟨_,Z,Y,hL,r'⟩) hok I.bare
theorem Inv.call {g':Array GenState}{d':Drawn}(I:Inv X pins σ H s)(u:Un (frs X.stack) ch H H' s.heap h')(hok:HOk X.prog X.w H' h')(hg:AllBare g')
 (U:∀ b∈ch,(b∈X.ex\/X.s₀.heap.objs.size<=b)/\b≠X.env.locals/\(∀ x c,X.env.cells.lookup x=some c->c≠b)/\∀ p∈X.pn++pins,p.1≠b) :
 Inv X pins σ H' {s with heap:=h',gens:=g',drawn:=d',toks:=t'}:=by
 obtain⟨m,⟨o,es,ep,Y,r⟩,_⟩:=id I.loc;obtain⟨sl,O⟩:=u.any Y I.free λz=>(U _ z).2.1 rfl
 exact I.step (ch:=ch) U (λb o O hb F e n=>u.keep b o e n (λz=>(A0G.mp (I.stkSub b z)).elim O hb) F) (λb o _ _ F e n=>u.any e n F) (λb o F e n=>u.free b o e n F) (λb o F e=>u.there b o e F) u.tups u.frzs u.tbls (λm' hm=>by obtain⟨o',a1,a0,Z,r'⟩:=hm;rw[Y] at Z;cases Z;exact⟨_,a1,a0,O,r'⟩) hok hg
theorem Inv.turned {it:Addr}(I:Inv X pins σ H s)(k:∀ b o,b≠it->s.heap.get? b=some o->h'.get? b=some o)(hn:H it=none)(O:it≠X.env.locals)
 (h1:it∈X.ex\/X.s₀.heap.objs.size<=it) (h2:∀ x c,X.env.cells.lookup x=some c->c≠it) (Z:∀ p∈X.pn++pins,p.1≠it):Inv X pins σ H {s with heap:=h',toks:=t'}:=by
 have U:∀ b u,H b=some u->b≠it:=λb u e z=>by rw[z,hn] at e;cases e
 refine I.step (g':=s.gens) (d':=s.drawn) (ch:=[it]) (λb hb=>?_) (λb o _ _ F e _=>k b o (λz=>F (by simp[z])) e) (λb o _ _ F e _=>⟨o.slots,k b o (λz=>F (by simp[z])) e⟩) (λ_ _ _ _ n=>n)
  (λb o F e=>⟨o,k b o (λz=>F (by simp[z])) e⟩) (λ_ _ e=>e) (λ_ _ _ e=>e) (λb ps e=>⟨#[],by rw[e];simp⟩) (λm hm=>?_) (λb u e=>?_) I.bare
 . have e:b=it:=by simpa using hb
   subst e;exact⟨h1,O,h2,Z⟩
 . obtain⟨o,es,Y,ho,r⟩:=hm;exact⟨o,es,Y,k _ o (Ne.symm O) ho,r⟩
 refine(I.hok b u e).stay (λc v F q=>k c v ?_ q) (λ_ q=>q) λ_ _ q=>q;rcases F with z|z
 . rw[z];exact U b u e
 exact U c _ z
def Inv.tok (I:Inv X pins σ H s)(t:Nat):Inv X pins σ H {s with toks:=t}:=I.un (h':=s.heap) (t':=t) Un.refl I.hok
theorem Inv.kept (I:Inv X pins σ H s)(k:∀ b u,s.heap.get? b=some u->h'.get? b=some u):Inv X pins σ H {s with heap:=h',toks:=t'}:=I.un (Un.kept k) (I.hok.kept k)
theorem Inv.laid {o:HO}(I:Inv X pins σ H s)(k:∀ b u,s.heap.get? b=some u->h'.get? b=some u)(F:s.heap.objs.size<=a)(new:ObjOk X.prog X.w (upd H a o) h' a o) :
 Inv X pins σ (upd H a o) {s with heap:=h',toks:=t'}:=I.un (Un.laid k F (I.hok.fresh F)) (I.hok.laid k F new)
theorem Inv.write {x e:Addr}{o:HO}(I:Inv X pins σ H s)(U:Mut (H x))(F:e=x\/H e=some (.own x))(k:∀ b u,b≠e->s.heap.get? b=some u->h'.get? b=some u)(O:∃ u,h'.get? e=some u)
 (new:ObjOk X.prog X.w (upd H x o) h' x o):Inv X pins σ (upd H x o) {s with heap:=h',toks:=t'}:=I.un (Un.write U F k O) (I.hok.write U F k O new)
def Inv.weak {σ':List (Option V)}(I:Inv X pins σ H s)(hl:σ'.length=σ.length)(w:∀(i:Nat) v,σ'[i]? = some (some v)->σ[i]? = some (some v)):Inv X pins σ' H s:=
 ⟨I.ok,I.os,I.bare,I.base,let ⟨m,hn,hl'⟩:=I.loc;⟨m,hn,λi x v F O U=>hl' i x v F (w i v O) U⟩,I.cell,I.free,I.freeC,I.pin,I.hok,hl.trans I.len⟩
def Inv.pins_of {F:List (Addr×Obj)}(I:Inv X pins σ H s)(h:∀ p∈F,s.heap.get? p.1=some p.2/\H p.1=none/\p.1≠X.env.locals/\p.1∉X.fs/\∀ v,p.2.data ≠ .cell v):Inv X F σ H s:=
 ⟨I.ok,I.os,I.bare,I.base,I.loc,I.cell,I.free,I.freeC,λp O=>(A0O.mp O).elim (λz=>I.pin p (A3V _ z)) (h p),I.hok,I.len⟩
def Pz {N:List Str}(U:N.Nodup){j:Nat}(a:N[i]? = some x)(b:N[j]? = some x):i=j:=by obtain⟨h1,F⟩:=A03.mp a;obtain⟨h2,O⟩:=A03.mp b;exact(A1Z U).mp (F.trans O.symm)
theorem Qi {A:Around}{Q:Unit->Shared->Prop}(I:Inv X pins σ H s)(hN:X.N.Nodup)(hi:X.N[i]? = some x)(U:Loc X.env.scope x)(r:RelV v u)
 (h:∀ s',Inv X pins (σ.set i (some v)) H s'->(∃ a,Heap.SameBut a s.heap s'.heap/\(a=X.env.locals\/X.env.cells.lookup x=some a))->Q () s') (hf:X.fn x=true\/X.env.scope.names.lookup x=some .local:=by with_unfolding_all (first | exact .inl rfl | exact .inr rfl | assumption)):wpAny M A (storeName X.env x u) Q E s:=by
 obtain⟨m,hn,hl⟩:=id I.loc;have a7:(X.env.scope.kind == .class||(X.env.scope.kind == .module&&X.env.locals != X.env.globals))=false:=by rw[I.ok.kind];rfl
 have a4:i<σ.length:=by rw[I.len];exact(A03.mp hi).1
 have cne:=I.cne
 have a6:∀ {a:Addr} {h':Heap},(∃ o,s.heap.get? a=some o/\H a=none)->Heap.SameBut a s.heap h'->HOk X.prog X.w H h':=fun {a h'} ha hs b ob e=>by
  obtain⟨_,_,a3⟩:=ha;refine(I.hok b ob e).stay (λc w' O q=>(hs.2 c ?_).trans q) (λ_ q=>q) λ_ _ q=>q;rintro rfl;rcases O with rfl|O
  . rw[a3] at e;cases e
  rw[a3] at O;cases O
 rcases U with hk|hk
 . refine wpAny_storeName_local hk hn (λh' a8 hs=>?_) a7;obtain⟨oL,_,_,a9,_⟩:=id hn;refine h _ ⟨I.ok,I.os,I.bare,⟨λb o e n Z U=>?_,λb o e n Z U=>?_,I.base.free,λb o e U=>?_,I.base.tups,I.base.frzs,I.base.tbls⟩,⟨_,a8,λj y v' F Y e3=>?_⟩,λy c e=>?_,I.free,I.freeC,λp hp=>?_,a6 ⟨oL,a9,I.free⟩ hs,by simpa using I.len⟩ ⟨_,hs,.inl rfl⟩
   . exact(hs.2 b (A0N (A0Y (A09 e) I.ok.above))).trans (I.base.keep b o e n Z U)
   . obtain⟨sl,F⟩:=I.base.slot b o e n Z U;exact⟨sl,(hs.2 b (A0N (A0Y (A09 e) I.ok.above))).trans F⟩
   . obtain⟨o',F⟩:=I.base.there b o e U;exact⟨o',(hs.2 b (A0N (A0Y (A09 e) I.ok.above))).trans F⟩
   . by_cases hj:j=i
     . subst hj;rw[hi] at F;cases F;rw[A2W a4] at Y
       cases Y;exact⟨u,r,.inl ⟨hk,by simp⟩⟩
     rw[A1X (Ne.symm hj)] at Y;obtain⟨u',r',q⟩:=hl j y v' F Y e3;refine⟨u',r',?_⟩;rcases q with ⟨k,e⟩|⟨k,c,e,z⟩
     . refine .inl ⟨k,?_⟩;have:y≠x:=λe=>hj (Pz hN F (e ▸ hi));simp[this,e]
     exact .inr ⟨k,c,e,z.sameBut hs (cne y c e)⟩
   . obtain⟨w',z⟩:=I.cell y c e;exact⟨w',z.sameBut hs (cne y c e)⟩
   obtain⟨e,n,ne,nf,d⟩:=I.pin p hp;exact⟨(hs.2 p.1 ne).trans e,n,ne,nf,d⟩
 have a0:X.fn x=true:=by
  rcases hf with z|z
  . exact z
  rw[z] at hk;cases hk
 obtain⟨c,O⟩:=I.ok.has x (.inl hk);obtain⟨w',z⟩:=I.cell x c O;refine wpAny_storeName_cell I.ok.kind hk O z (λh' a1 hs=>?_);obtain⟨oc,a5,aA⟩:=id z;refine h {s with heap:=h'} ⟨I.ok,I.os,I.bare,⟨λb o e n Z U=>?_,λb o e n Z U=>?_,I.base.free,λb o e U=>?_,I.base.tups,I.base.frzs,I.base.tbls⟩,⟨m,hn.sameBut hs (Ne.symm (cne x c O)),λj y v' F Y e3=>?_⟩,λy c' e=>?_,I.free,I.freeC,λp hp=>?_,a6 ⟨oc,a5,I.freeC x c O⟩ hs,by simpa using I.len⟩ ⟨c,hs,.inr O⟩
 . exact(hs.2 b (A0N (A0Y (A09 e) (I.ok.cab x c a0 O)))).trans (I.base.keep b o e n Z U)
 . obtain⟨sl,F⟩:=I.base.slot b o e n Z U;exact⟨sl,(hs.2 b (A0N (A0Y (A09 e) (I.ok.cab x c a0 O)))).trans F⟩
 . obtain⟨o',F⟩:=I.base.there b o e U;exact⟨o',(hs.2 b (A0N (A0Y (A09 e) (I.ok.cab x c a0 O)))).trans F⟩
 . by_cases hj:j=i
   . subst hj;rw[hi] at F;cases F;rw[A2W a4] at Y
     cases Y;exact⟨u,r,.inr ⟨.inl hk,c,O,a1⟩⟩
   rw[A1X (Ne.symm hj)] at Y;obtain⟨u',r',q⟩:=hl j y v' F Y e3;refine⟨u',r',?_⟩;rcases q with q|⟨k,c',e,z'⟩
   . exact .inl q
   refine .inr ⟨k,c',e,z'.sameBut hs ?_⟩;rintro rfl;exact hj (Pz hN F (I.ok.inj _ _ _ e O ▸ hi))
 . by_cases a2:c'=c
   . subst a2;exact⟨_,a1⟩
   obtain⟨w2,z2⟩:=I.cell y c' e;exact⟨w2,z2.sameBut hs a2⟩
 obtain⟨e,n,ne,nf,d⟩:=I.pin p hp;refine⟨(hs.2 p.1 ?_).trans e,n,ne,nf,d⟩;intro q;rw[q,a5] at e;have q':oc=p.2:=A10 e;exact d w' (by rw[<- q'];exact aA)
def Me {A:Around}{Q:Unit->Shared->Prop}(I:Inv X pins σ H s)(O:X.N.Nodup)(hi:X.N[i]? = some x)(U:Loc X.env.scope x)(r:RelV v u)
 (h:∀ s',Inv X pins (σ.set i (some v)) H s'->Q () s') (hf:X.fn x=true\/X.env.scope.names.lookup x=some .local:=by with_unfolding_all (first | exact .inl rfl | exact .inr rfl | assumption)):wpAny M A (storeName X.env x u) Q E s:=
 Qi I O hi U r (λs' F _=>h s' F) hf
def Inv.call' {s':Shared}(I:Inv X pins σ H s)(U:s'.os=s.os)(u:Un (frs X.stack) ch H H' s.heap s'.heap)(hok:HOk X.prog X.w H' s'.heap)(O:AllBare s'.gens)
 (F:∀ b∈ch,(b∈X.ex\/X.s₀.heap.objs.size<=b)/\b≠X.env.locals/\(∀ x c,X.env.cells.lookup x=some c->c≠b)/\∀ p∈X.pn++pins,p.1≠b):Inv X pins σ H' s':=by
 obtain⟨h',g',d',t',o'⟩:=s';have e:o'=s.os:=U;subst e;exact I.call (g':=g') (t':=t') (d':=d') u hok O F
end
abbrev XK:=Value->Option Addr->Hp->Prop
abbrev St:=List (Option V)
abbrev VK:=V->Hp->Prop
abbrev TE:=St->Hp->VK->Prop
abbrev TT:=St->Hp->(Bool->Hp->Prop)->Prop
abbrev TA:=St->Hp->(List V->Hp->Prop)->Prop
structure Ends where
 nx:St->Hp->Prop
 rt:VK
 bk:St->Hp->Prop:=λ_ _=>False
 ct:St->Hp->Prop:=λ_ _=>False
abbrev TS:=Ends->St->Hp->Prop
def EP (X:Cx)(pins:List (Addr×Obj))(σ:St)(Q:VK)(u:Value)(s':Shared):Prop:=∃ v H',Inv X pins σ H' s'/\RelV v u/\Q v H'
def TP (X:Cx)(pins:List (Addr×Obj))(σ:St)(Q:Bool->Hp->Prop)(b:Bool)(s':Shared):Prop:=∃ H',Inv X pins σ H' s'/\Q b H'
def AP (X:Cx)(pins:List (Addr×Obj))(σ:St)(Q:List V->Hp->Prop)(us:List Value)(s':Shared):Prop:=∃ vs H',Inv X pins σ H' s'/\Vals vs us/\Q vs H'
def SP (X:Cx)(pins:List (Addr×Obj))(D:Ends)(f:Flow)(s':Shared):Prop:=
 match f with
 |.next=>∃ σ' H',Inv X pins σ' H' s'/\D.nx σ' H'
 |.brk=>∃ σ' H',Inv X pins σ' H' s'/\D.bk σ' H'
 |.cont=>∃ σ' H',Inv X pins σ' H' s'/\D.ct σ' H'
 |.ret u=>∃ v σ' H',Inv X pins σ' H' s'/\RelV v u/\D.rt v H'
def PE (X:Cx)(e:Expr)(t:TE):Prop:=
 ∀(pins:List (Addr×Obj)) (s:Shared) (σ:St) (H:Hp) (Q:VK),Inv X pins σ H s->t σ H Q->wpAny (model X.prog X.w) X.A (eval e X.env) (EP X pins σ Q) X.xe s
def PT (X:Cx)(e:Expr)(t:TT):Prop:=
 ∀(pins:List (Addr×Obj)) (s:Shared) (σ:St) (H:Hp) (Q:Bool->Hp->Prop),Inv X pins σ H s->t σ H Q->wpAny (model X.prog X.w) X.A (isTrue e X.env (eval e X.env)) (TP X pins σ Q) X.xe s
def PW (X:Cx)(e:Expr)(t:TT):Prop:=
 ∀(F:Sem Value) (pins:List (Addr×Obj)) (s:Shared) (σ:St) (H:Hp) (Q:Bool->Hp->Prop),Inv X pins σ H s->t σ H Q->wpAny (model X.prog X.w) X.A (isTrue e X.env F) (TP X pins σ Q) X.xe s
def PW.pt {t:TT}(h:PW X e t):PT X e t:=h _
def PA (X:Cx)(es:List Expr)(t:TA):Prop:=
 ∀(pos:Pos) (pins:List (Addr×Obj)) (s:Shared) (σ:St) (H:Hp) (Q:List V->Hp->Prop),Inv X pins σ H s->t σ H Q->wpAny (model X.prog X.w) X.A (spliced (backTo pos (starEach es X.env))) (AP X pins σ Q) X.xe s
def PS (X:Cx)(st:Stmt)(t:TS):Prop:=
 ∀(pins:List (Addr×Obj)) (s:Shared) (σ:St) (H:Hp) (D:Ends),Inv X pins σ H s->t D σ H->wpAny (model X.prog X.w) X.A (exec st X.env) (SP X pins D) X.xe s
def PSs (X:Cx)(st:List Stmt)(t:TS):Prop:=
 ∀(pins:List (Addr×Obj)) (s:Shared) (σ:St) (H:Hp) (D:Ends),Inv X pins σ H s->t D σ H->wpAny (model X.prog X.w) X.A (execs st X.env) (SP X pins D) X.xe s
def thn {α:Type}{t:Sem α}{Q F:α->Shared->Prop}{A:Around}(h:wpAny M A t Q E s)(O:∀ a s,Q a s->F a s):wpAny M A t F E s:=A22 h O λ_ _ x=>x
section
def aE7 (i:Nat):TE:=fun σ H Q=>∃ v,σ[i]? = some (some v)/\Q v H
def tC (v:V):TE:=λ_ H Q=>Q v H
def aA0 (Z:X.N[i]? = some x)(hv:Vis X.env.scope x)(hd:(x==("__debug__":Str))=false:=by decide)(a0:(x==("__classdict__":Str))=false:=by decide):PE X (.Name x pos) (aE7 i):=by
 intro pins s σ H Q I h;obtain⟨v,e,h⟩:=h;obtain⟨m,hn,hl⟩:=I.loc;obtain⟨u,r,l⟩:=hl i x v Z e hv;have O:EP X pins σ Q u s:=⟨v,H,I,r,h⟩;rcases l with ⟨F,hm⟩|⟨F,c,U,Y⟩
 . exact wpAny_Name (wpAny_loadName_local I.ok.kind F hn hm O) hd
 rcases F with F|F
 . exact wpAny_Name (wpAny_loadName_cell I.ok.kind F U Y O) hd
 exact wpAny_Name (wpAny_loadName_free I.ok.kind F U Y O a0) hd
def A3 {i j pos}:PE X (.Constant (.int i) j pos) (tC (.int i)):=λ_ _ _ H _ I h=>wpAny_Constant_int ⟨.int i,H,I.tok _,⟨_,rfl⟩,h⟩
def E6 {b j pos}:PE X (.Constant (.bool b) j pos) (tC (.bl b)):=λ_ _ _ H _ I h=>Constant_bool ⟨.bl b,H,I,rfl,h⟩
def Fd {j pos}:PE X (.Constant .none j pos) (tC .non):=λ_ _ _ H _ I h=>Constant_none ⟨.non,H,I,rfl,h⟩
def Af {x j pos}:PE X (.Constant (.str x) j pos) (tC (.str x)):=λ_ _ _ H _ I h=>Calls.Constant_str ⟨.str x,H,I.tok _,⟨_,rfl⟩,h⟩
def Gl (X:Cx)(x:Str):Prop:=X.env.kindOf x=some .globalImplicit
def Pn {σ:St}(I:Inv X pins σ H s)(F:Gl X x)(hm:X.mg x=some u)(h:Q u s)
 (hd:(x==("__debug__":Str))=false:=by decide):wpAny (model X.prog X.w) X.A (eval (.Name x pos) X.env) Q E s:=
 Calls.Name_function_global I.ok.kind F (Calls.loadGlobal_global (by rw[I.ok.glob];exact I.mod.glob.keeps I.bk) hm h) hd
def Kh {σ:St}(I:Inv X pins σ H s)(F:Gl X x)(hm:X.mg x=none)(O:bootBuiltins x=some u)(h:Q u s)
 (hn:x ≠ "__name__":=by decide) (hd:(x==("__debug__":Str))=false:=by decide):wpAny (model X.prog X.w) X.A (eval (.Name x pos) X.env) Q E s:=by
 obtain⟨U,h1,h2⟩:=I.mod.blt;exact Calls.Name_function_global I.ok.kind F (Calls.loadGlobal_builtin (by rw[I.ok.glob];exact I.mod.glob.keeps I.bk) hm (by rw[I.ok.blt];exact h1.keeps I.bk) ((h2 x hn).trans O) h) hd
def aj2 (F:Gl X x)(hm:X.mg x=some u)(r:RelV v u)(hd:(x==("__debug__":Str))=false:=by decide):PE X (.Name x pos) (tC v):=
 λ_ _ _ H _ I h=>Pn I F hm ⟨v,H,I,r,h⟩ hd
def B9 (F:Gl X x)(hm:X.mg x=none)(O:bootBuiltins x=some u)(r:RelV v u)(hn:x ≠ "__name__":=by decide)(hd:(x==("__debug__":Str))=false:=by decide):PE X (.Name x pos) (tC v):=
 λ_ _ _ H _ I h=>Kh I F hm O ⟨v,H,I,r,h⟩ hn hd
variable {a b:Expr}{ta tb:TE}
def tB (t:TE):TT:=fun σ H Q=>t σ H λx H1=>∃ c,x = .bl c/\Q c H1
def B8 {t:TE}(h:PE X e t)(U:∀ F,isTrue e X.env F=(do let v <- F;standAt e.pos;holding [v] (truthy v)):=by intro _;ac_nf):PT X e (tB t):=by
 intro pins s σ H Q I hw;refine isTrue_plain (thn (h pins s σ H _ I hw) λv s1 ⟨x,H1,O,Z,Y⟩=>?_) (U _);obtain⟨d,rfl,q⟩:=Y
 cases Z;exact A1Q ⟨H1,O,q⟩
variable {tA tB':TT}{rest:List Expr}
def aH9 (t u:TT):TT:=fun σ H Q=>t σ H λc H1=>if c=true then u σ H1 Q else Q false H1
def tOr (t u:TT):TT:=fun σ H Q=>t σ H λc H1=>if c=true then Q true H1 else u σ H1 Q
def aG7 (t:TT):TT:=fun σ H Q=>t σ H λc H1=>Q (!c) H1
def Q6 (ha:PT X a tA):PW X (.BoolOp .And [a] pos) tA:=by
 intro O pins s σ H Q I h;refine isTrue_and (thn (ha pins s σ H Q I h) λc F e=>?_)
 cases c with
 |true=>exact isTrue_and_nil e
 |false=>exact e
def Dj (ha:PT X a tA):PW X (.BoolOp .Or [a] pos) tA:=by
 intro O pins s σ H Q I h;refine isTrue_or (thn (ha pins s σ H Q I h) λc F e=>?_)
 cases c with
 |false=>exact isTrue_or_nil e
 |true=>exact e
def R7 (ha:PT X a tA)(U:PW X (.BoolOp .And (b :: rest) pos) tB'):PW X (.BoolOp .And (a :: b :: rest) pos) (aH9 tA tB'):=by
 intro Z pins s σ H Q I h;refine isTrue_and (thn (ha pins s σ H _ I h) λc Y ⟨H1,F,O⟩=>?_)
 cases c with
 |true=>exact U Z pins Y σ H1 Q F O
 |false=>exact⟨H1,F,O⟩
def E9 (ha:PT X a tA)(U:PW X (.BoolOp .Or (b :: rest) pos) tB'):PW X (.BoolOp .Or (a :: b :: rest) pos) (tOr tA tB'):=by
 intro Z pins s σ H Q I h;refine isTrue_or (thn (ha pins s σ H _ I h) λc Y ⟨H1,F,O⟩=>?_)
 cases c with
 |true=>exact⟨H1,F,O⟩
 |false=>exact U Z pins Y σ H1 Q F O
def Bj (ha:PT X a tA):PT X (.UnaryOp .Not a pos) (aG7 tA):=by intro pins s σ H Q I h;exact isTrue_not (ha pins s σ H (λc H1=>Q (!c) H1) I h)
def aq2 (ta tb:TE):TE:=fun σ H Q=>ta σ H λx H1=>∃ c,x = .bl c/\if c=true then tb σ H1 Q else Q (.bl false) H1
def aG5 (ta tb:TE):TE:=fun σ H Q=>ta σ H λx H1=>∃ c,x = .bl c/\if c=true then Q (.bl true) H1 else tb σ H1 Q
def as8 (ta:TE):TE:=fun σ H Q=>ta σ H λx H1=>∃ c,x = .bl c/\Q (.bl (!c)) H1
def D9 {op}{t:TE}(h:PE X a t):PE X (.BoolOp op [a] pos) t:=λpins s σ H Q I hw=>BoolOp_one (h pins s σ H Q I hw)
def Cm (ha:PE X a ta)(U:PE X (.BoolOp .And (b :: rest) pos) tb):PE X (.BoolOp .And (a :: b :: rest) pos) (aq2 ta tb):=by
 intro pins s σ H Q I h;refine BoolOp_and (thn (ha pins s σ H _ I h) λv Z ⟨x,H1,O,Y,F⟩=>?_);obtain⟨c,rfl,F⟩:=F
 cases Y;refine A1Q ?_
 cases c with
 |true=>exact U pins Z σ H1 Q O F
 |false=>exact⟨.bl false,H1,O,rfl,F⟩
def aw6 (ha:PE X a ta)(U:PE X (.BoolOp .Or (b :: rest) pos) tb):PE X (.BoolOp .Or (a :: b :: rest) pos) (aG5 ta tb):=by
 intro pins s σ H Q I h;refine BoolOp_or (thn (ha pins s σ H _ I h) λv Z ⟨x,H1,O,Y,F⟩=>?_);obtain⟨c,rfl,F⟩:=F
 cases Y;refine A1Q ?_
 cases c with
 |false=>exact U pins Z σ H1 Q O F
 |true=>exact⟨.bl true,H1,O,rfl,F⟩
def ac0 (ha:PE X a ta):PE X (.UnaryOp .Not a pos) (as8 ta):=by
 intro pins s σ H Q I h;refine UnaryOp_ (thn (ha pins s σ H _ I h) λv Y ⟨x,H1,O,U,F⟩=>?_);obtain⟨c,rfl,F⟩:=F
 cases U;exact not_of (A1Q ⟨.bl (!c),H1,O,rfl,F⟩)
def tIf (t:TT)(ta tb:TE):TE:=fun σ H Q=>t σ H λc H1=>if c=true then ta σ H1 Q else tb σ H1 Q
def Kn {c:Expr}(Z:PT X c tA)(ha:PE X a ta)(Y:PE X b tb):PE X (.IfExp c a b pos) (tIf tA ta tb):=by
 intro pins s σ H Q I h;refine wpAny_IfExp (thn (Z pins s σ H _ I h) λd U ⟨H1,F,O⟩=>?_)
 cases d with
 |true=>exact ha pins U σ H1 Q F O
 |false=>exact Y pins U σ H1 Q F O
end
def SqL (K:W.Frag)(H:Hp)(a:Addr)(xs:List V):Prop:=
 Rd H a (.lst xs) \/
  ∃(o:Obj) (F:Array Value) (n:Nat),K.lookup a=some o/\o.cls = .type "list" /\ o.dict=none/\o.data = .seq F n/\F.size<=sizeLine/\Vals xs F.toList
def SqT (K:W.Frag)(H:Hp)(a:Addr)(xs:List V):Prop:=
 Rd H a (.tup xs) \/
  ∃(o:Obj) (F:Array Value) (n:Nat),K.lookup a=some o/\o.cls = .type "tuple" /\ o.data = .seq F n/\F.size<=sizeLine/\Vals xs F.toList/\o.dict=none
def absV:Value->Option V
 |.none=>some .non
 |.bool b=>some (.bl b)
 |.int i _=>some (.int i)
 |.str x _=>some (.str x)
 |.bytes b _=>some (.byt b)
 |.float b _=>some (.flt b)
 |.ref a=>some (.ref a)
 |.type n=>some (.ty n)
 |_=>none
def RelV.abs {x:V}(r:RelV x u):absV u=some x:=by
 cases x with
 |non=>cases r;rfl
 |bl _=>cases r;rfl
 |int _=>obtain⟨t,rfl⟩:=r;rfl
 |str _=>obtain⟨t,rfl⟩:=r;rfl
 |byt _=>obtain⟨t,rfl⟩:=r;rfl
 |flt _=>obtain⟨t,rfl⟩:=r;rfl
 |ref _=>cases r;rfl
 |ty _=>cases r;rfl
def RelV.inj {x y:V}(r:RelV x u)(q:RelV y u):x=y:=A10 (r.abs.symm.trans q.abs)
theorem Vals.inj:∀ {xs ys:List V} {us:List Value},Vals xs us->Vals ys us->xs=ys
 |_,_,_,.nil,.nil=>rfl
 |_,_,_,.cons r t,.cons r' t'=>by rw[r.inj r',Vals.inj t t']
section
variable {σ:St}{xs ys:List V}
def SqL.of {K:W.Frag}(h:H a=some (.lst xs)):SqL K H a xs:=.inl (.inl h)
def SqT.of {K:W.Frag}(h:H a=some (.tup xs)):SqT K H a xs:=.inl (.inl h)
def Inv.list (I:Inv X pins σ H s)(h:SqL X.K H a xs):∃ F:List Value,Vals xs F/\PlainL s.heap a F.toArray/\xs.length<=sizeLine:=by
 rcases h with h|⟨o,F,n,U,O,hd,hs,hz,r⟩
 . obtain⟨z,F,n,r,e⟩:=h.ok I.hok;exact⟨F,r,⟨_,n,e,rfl,rfl,rfl⟩,z⟩
 refine⟨F.toList,r,⟨o,n,I.kIn a o U,O,hd,by simpa using hs⟩,?_⟩;have e:=r.length;simp only[Array.length_toList] at e;omega
def Inv.tuple (I:Inv X pins σ H s)(h:SqT X.K H a xs):∃ F:List Value,Vals xs F/\IsTup s.heap a F.toArray/\xs.length<=sizeLine:=by
 rcases h with h|⟨o,F,n,U,O,hs,hz,r,hn⟩
 . obtain⟨z,F,r,p⟩:=h.ok I.hok;exact⟨F,r,p.tup,z⟩
 refine⟨F.toList,r,⟨o,I.kIn a o U,O,n,by simpa using hs⟩,?_⟩;have e:=r.length;simp only[Array.length_toList] at e;omega
def Inv.tupleN (I:Inv X pins σ H s)(h:SqT X.K H a xs):∃ F,s.heap.get? a=some F/\F.dict=none:=by
 rcases h with h|⟨o,U,n,O,Y,hs,hz,r,hn⟩
 . obtain⟨z,U,r,o,h1,_,_,h2⟩:=h.ok I.hok;exact⟨o,h1,h2⟩
 exact⟨o,I.kIn a o O,hn⟩
def Inv.list_inj (I:Inv X pins σ H s)(h:SqL X.K H a xs)(h':SqL X.K H a ys):xs=ys:=by
 obtain⟨O,r,⟨o,n,e,_,_,d⟩,_⟩:=I.list h;obtain⟨its',U,⟨o',n',F,_,_,d'⟩,_⟩:=I.list h';rw[e] at F;cases F;rw[d] at d';injection d' with d1 _;have:O=its':=by simpa using congrArg Array.toList d1
 subst this;exact r.inj U
def Inv.tuple_inj (I:Inv X pins σ H s)(h:SqT X.K H a xs)(h':SqT X.K H a ys):xs=ys:=by
 obtain⟨O,r,⟨o,e,_,n,d⟩,_⟩:=I.tuple h;obtain⟨its',U,⟨o',F,_,n',d'⟩,_⟩:=I.tuple h';rw[e] at F;cases F;rw[d] at d';injection d' with d1 _;have:O=its':=by simpa using congrArg Array.toList d1
 subst this;exact r.inj U
end
abbrev Cx.wish (X:Cx)(E:Value->Shared->Prop):Cx:={X with xe:=E}
abbrev Cx.nox (X:Cx):Cx:=X.wish λ_ _=>False
theorem Cx.Ok.wish (ok:X.Ok)(E:Value->Shared->Prop):(X.wish E).Ok:=
 ⟨ok.mod,ok.kind,ok.glob,ok.blt,ok.above,ok.inj,ok.has,ok.cab,ok.hd,ok.frames,ok.stk,ok.exf,ok.bs,ok.bsz,ok.noex,ok.exfs,ok.funs,ok.frf⟩
def Cx.Ok.unwish (ok:(X.wish E).Ok):X.Ok:=
 ⟨ok.mod,ok.kind,ok.glob,ok.blt,ok.above,ok.inj,ok.has,ok.cab,ok.hd,ok.frames,ok.stk,ok.exf,ok.bs,ok.bsz,ok.noex,ok.exfs,ok.funs,ok.frf⟩
section
variable {σ:St}
theorem Inv.wish (I:Inv X pins σ H s)(E:Value->Shared->Prop):Inv (X.wish E) pins σ H s:=⟨I.ok.wish E,I.os,I.bare,I.base,I.loc,I.cell,I.free,I.freeC,I.pin,I.hok,I.len⟩
theorem Inv.unwish (I:Inv (X.wish E) pins σ H s):Inv X pins σ H s:=⟨I.ok.unwish,I.os,I.bare,I.base,I.loc,I.cell,I.free,I.freeC,I.pin,I.hok,I.len⟩
theorem SP.unwish {D:Ends}{f:Flow}{s':Shared}(h:SP (X.wish E) pins D f s'):SP X pins D f s':=by
 cases f with
 |next=>obtain⟨σ',H',I,q⟩:=h;exact⟨σ',H',I.unwish,q⟩
 |brk=>obtain⟨σ',H',I,q⟩:=h;exact⟨σ',H',I.unwish,q⟩
 |cont=>obtain⟨σ',H',I,q⟩:=h;exact⟨σ',H',I.unwish,q⟩
 |ret u=>obtain⟨v,σ',H',I,r,q⟩:=h;exact⟨v,σ',H',I.unwish,r,q⟩
theorem PSs.nox {st:List Stmt}{t:TS}(h:PSs X.nox st t):PSs X st t:=λpins s σ H D I hw=>A22 (h pins s σ H D (I.wish _) hw) (λ_ _ q=>q.unwish) λ_ _ z=>False.elim z
end
section
variable {st:Stmt}{rest:List Stmt}{t u:TS}{te:TE}
def ar0:TS:=λD σ H=>D.nx σ H
def aB7 (t u:TS):TS:=λD σ H=>t {D with nx:=u D} σ H
def Ad:PSs X [] ar0:=λ_ _ σ H _ I h=>A4K ⟨σ,H,I,h⟩
def A2 (h1:PS X st t) (h2:PSs X rest u):PSs X (st :: rest) (aB7 t u):=by
 intro pins s σ H D I h;refine wpAny_execs_cons (thn (h1 pins s σ H {D with nx:=u D} I h) λf O q=>?_)
 cases f with
 |next=>obtain⟨σ',H',F,q⟩:=q;exact h2 pins O σ' H' D F q
 |ret v=>exact q
 |brk=>exact q
 |cont=>exact q
def A5 (h1:PS X st t):PSs X [st] t:=by
 intro pins s σ H D I h;refine wpAny_execs_cons (thn (h1 pins s σ H D I h) λf F q=>?_)
 cases f with
 |next=>exact A4K q
 |ret v=>exact q
 |brk=>exact q
 |cont=>exact q
def Inv.quiet {σ:St}(I:Inv X pins σ H s):interactive X.env=false:=by simp[interactive,I.ok.kind]
def ap2 (te:TE):TS:=λD σ H=>te σ H λ_ H1=>D.nx σ H1
def Do (O:PE X e te)(hs:swapsWith e none pos.line X.env=pure false:=by ac_nf):PS X (.Expr e pos) (ap2 te):=by intro pins s σ H D I h;exact wpAny_Expr_any (thn (O pins s σ H _ I h) λv Z ⟨x,H1,F,Y,U⟩=>⟨σ,H1,F,U⟩) I.quiet hs
def aF9 (te:TE):TS:=λD σ H=>te σ H D.rt
def Aa (O:PE X e te):PS X (.Return (some e) pos) (aF9 te):=by intro pins s σ H D I h;exact wpAny_Return_some (thn (O pins s σ H _ I h) λv Z ⟨x,H1,F,Y,U⟩=>⟨x,σ,H1,F,Y,U⟩)
def aI5 (c:TT)(t u:TS):TS:=λD σ H=>c σ H λb H1=>if b=true then t D σ H1 else u D σ H1
def Av {c:Expr}{a b:List Stmt}{tc:TT}(Z:PT X c tc)(ha:PSs X a t)(Y:PSs X b u):PS X (.If c a b pos) (aI5 tc t u):=by
 intro pins s σ H D I h;refine wpAny_If (thn (Z pins s σ H _ I h) λd U ⟨H1,F,O⟩=>?_)
 cases d with
 |true=>exact ha pins U σ H1 D F O
 |false=>exact Y pins U σ H1 D F O
end
abbrev TG:=V->St->Hp->(St->Hp->Prop)->Prop
abbrev TGs:=List V->St->Hp->(St->Hp->Prop)->Prop
def PG (X:Cx)(F:Expr)(t:TG):Prop:=
 ∀(pins:List (Addr×Obj)) (s:Shared) (σ:St) (H:Hp) (v:V) (u:Value) (Q:St->Hp->Prop),Inv X pins σ H s->RelV v u->t v σ H Q ->
  wpAny (model X.prog X.w) X.A (assign F X.env u) (λ_ s'=>∃ σ' H',Inv X pins σ' H' s'/\Q σ' H') X.xe s
def PGs (X:Cx)(ts:List Expr)(t:TGs):Prop:=
 ∀(pins:List (Addr×Obj)) (s:Shared) (σ:St) (H:Hp) (vs:List V) (us:List Value) (Q:St->Hp->Prop),Inv X pins σ H s->Vals vs us->t vs σ H Q ->
  wpAny (model X.prog X.w) X.A (assignInOrder ((assignEach ts X.env).map (·.2)) us) (λ_ s'=>∃ σ' H',Inv X pins σ' H' s'/\Q σ' H') X.xe s
def Ht (i:Nat):TG:=λv σ H Q=>Q (σ.set i (some v)) H
def Ae (O:X.N.Nodup)(hi:X.N[i]? = some x)(U:Loc X.env.scope x)(hf:X.fn x=true\/X.env.scope.names.lookup x=some .local:=by with_unfolding_all (first | exact .inl rfl | exact .inr rfl | assumption)):PG X (.Name x pos) (Ht i):=by intro pins s σ H v u Q I r h;exact wpAny_assign_Name (Me I O hi U r (λs' F=>⟨_,H,F,h⟩) hf)
def ae6:TGs:=λvs σ H Q=>vs=[]/\Q σ H
def M8 (t:TG)(u:TGs):TGs:=λvs σ H Q=>∃ v r,vs=v :: r/\t v σ H fun σ' H'=>u r σ' H' Q
def Jw:PGs X [] ae6:=by
 intro pins s σ H vs us Q I r h;obtain⟨e,h⟩:=h;subst e
 cases r;exact assignInOrder_nil ⟨σ,H,I,h⟩
def Ce {es:List Expr}{t:TG}{u:TGs}(h1:PG X e t)(h2:PGs X es u)
 (hs:(assignEach (e :: es) X.env).map (·.2)=assign e X.env :: (assignEach es X.env).map (·.2):=by ac_nf):PGs X (e :: es) (M8 t u):=by
 intro pins s σ H vs us Q I r h;obtain⟨v,Z,O,h⟩:=h;subst O
 cases r with
 |cons r rr=>rw[hs];refine assignInOrder_cons (thn (h1 pins s σ H _ _ _ I r h) λ_ Y ⟨σ1,H1,F,U⟩=>?_);exact h2 pins Y σ1 H1 _ _ Q F rr U
def ab4 (K:W.Frag)(n:Nat)(t:TGs):TG:=λv σ H Q=>∃ a xs,v = .ref a/\SqT K H a xs/\xs.length=n/\t xs σ H Q
def aq6 {es:List Expr}{k:Nat}{t:TGs}{n:Nat}(Y:X.calm=true)(h:PGs X es t)
 (hn:(assignEach es X.env).length=n:=by ac_nf) (a0:(assignEach es X.env).findIdx? (·.1)=none:=by ac_nf):PG X (.Tuple es k pos) (ab4 X.K n t):=by
 intro pins s σ H v u Q I r hw;obtain⟨a,xs,U,Z,hl,hw⟩:=hw;subst U
 cases r;obtain⟨a1,F,ht,hz⟩:=I.tuple Z;refine assign_Tuple_tuple (I.ok.hd Y) ht (by simp[hn,<- hl,F.length]) a0 λh' hx=>?_;have O:Inv X pins σ H {s with heap:=h'}:=I.kept (t':=s.toks) λb o e=>hx b o (A0N (A09 e)) e
 exact h pins _ σ H xs _ Q O (by simpa using F) hw
def ao3 (te:TE)(g:TG):TS:=λD σ H=>te σ H λx H1=>g x σ H1 D.nx
def ax8 {te:TE}{g:TG}(O:PE X e te)(U:PG X tg g)(hs:swapsWithSole [tg] e pos.line X.env=pure false:=by ac_nf)(hw:swappedStores [tg] e X.env=pure none:=by ac_nf)
 (h1:(assignEach [tg] X.env).map (·.2)=[assign tg X.env]:=by ac_nf):PS X (.Assign [tg] e pos) (ao3 te g):=by
 intro pins s σ H D I h;refine wpAny_Assign_stores (thn (O pins s σ H _ I h) λv s1 ⟨x,H1,F,Z,Y⟩=>?_) hs hw;rw[h1];exact thn (U pins s1 σ H1 x v _ F Z Y) λ_ s2 q=>q
def Ai {te:TE}{pos':Pos}(U:X.N.Nodup)(hi:X.N[i]? = some x)(Z:Loc X.env.scope x)(Y:PE X e te)(hs:swapsWith e (some (.Name x pos')) pos.line X.env=pure false:=by ac_nf)(hf:X.fn x=true\/X.env.scope.names.lookup x=some .local:=by with_unfolding_all (first | exact .inl rfl | exact .inr rfl | assumption)) :
 PS X (.Assign [.Name x pos'] e pos) (ao3 te (Ht i)):=by
 intro pins s σ H D I h;refine wpAny_Assign_Name (thn (Y pins s σ H _ I h) λv s1 ⟨y,H1,F,r1,q1⟩=>?_) hs;exact Me F U hi Z r1 (λs2 O=>⟨_,H1,O,q1⟩) hf
def aa1 (c:TT)(tb:TS):TS:=λD σ H=>∃ W:Nat->St->Hp->Prop,(∃ m,W m σ H)/\∀ m σ H,W m σ H ->
 c σ H λb H1=>if b=true then ∃ N:St->Hp->Prop,(∀ σ' H',N σ' H'->∃ F,F<m/\W F σ' H')/\tb {D with nx:=N,ct:=N,bk:=D.nx} σ H1 else D.nx σ H1
theorem a51 {c:Expr}{tc:TT}{tb:TS}(hp:PassesOwn (model X.prog X.w) X.A X.env X.xe)(hc:PT X c tc)(hb:PSs X body tb):PS X (.While c body [] pos) (aa1 tc tb):=by
 intro pins s σ H D I h;obtain⟨W,⟨m0,w0⟩,a0⟩:=h;refine wpAny_While (codeAny_whileLoop (λn s'=>∃ σ' H',Inv X pins σ' H' s'/\W n σ' H') ?_ m0 ⟨σ,H,I,w0⟩);rintro n s1 ⟨σ1,H1,I1,w1⟩;refine A2Z hp (thn (hc pins s1 σ1 H1 _ I1 (a0 n σ1 H1 w1)) λb s2 ⟨H2,I2,O⟩=>?_)
 cases b with
 |true=>
   obtain ⟨N,hN,O⟩:=O;rw[A0K rfl];refine A2Z hp (thn (hb pins s2 σ1 H2 _ I2 O) λf s3 U=>?_)
   cases f with
   |next=>obtain⟨σ3,F,Y,n3⟩:=U;obtain⟨Z,hm,w3⟩:=hN σ3 F n3;exact⟨Z,hm,σ3,F,Y,w3⟩
   |cont=>obtain⟨σ3,F,Y,n3⟩:=U;obtain⟨Z,hm,w3⟩:=hN σ3 F n3;exact⟨Z,hm,σ3,F,Y,w3⟩
   |brk=>exact U
   |ret v=>exact U
 |false=>rw[A0J A0C];exact A4K ⟨σ1,H2,I2,O⟩
structure It where
 go:Nat->Hp->Prop
 yld:Nat->Hp->V->Hp->Prop
 stop:Nat->Hp->Prop
def Uz (X:Cx)(pins:List (Addr×Obj))(H:Hp)(b:Addr):Prop:=
 H b=none/\b≠X.env.locals/\b∉X.fs/\(b∈X.ex\/X.s₀.heap.objs.size<=b)/\(∀ x c,X.env.cells.lookup x=some c->c≠b)/\∀ p∈X.pn++pins,p.1≠b
def Inv.fpOk {σ:St}{H':Hp}(I:Inv X pins σ H s)(F:s.heap.objs.size<=b)(hn:H' b=none):Uz X pins H' b:=by
 refine⟨hn,A2O (A0Y I.lt F),I.nofs F,.inr (A0M I.sz F),λx c e z=>?_,λp O z=>?_⟩
 . obtain⟨v,q⟩:=I.cell x c e;exact absurd (A0Y q.lt (by rw[z];exact F)) (A2E _)
 exact absurd (A0Y (A09 (I.pin p O).1) (by rw[z];exact F)) (A2E _)
structure Xu (P:Program)(w:World)(K:W.Frag)(tg:Expr)(J:It)(fp:List Addr)(it:Addr)(tn:Nat->Heap->Prop):Prop where
 mem:it∈fp
 obj:∀ i h,tn i h->∀ b∈fp,∃ o,h.get? b=some o/\∀ v,o.data ≠ .cell v
 keep:∀ i h h',tn i h->(∀ b∈fp,∀ o,h.get? b=some o->h'.get? b=some o)->tn i h'
 item:∀(X:Cx),X.prog=P->X.w=w->X.K=K->X.calm=true->∀(i:Nat) (pins:List (Addr×Obj)) (s:Shared) (σ:St) (H:Hp) (E:Value->Shared->Prop),Inv X pins σ H s->(∀ b∈fp,Uz X pins H b)->tn i s.heap->J.go i H ->
  wpAny (model P w) X.A (pyNext (.ref it)) (λr s1=>∃ u,r=some u /\
   wpAny (model P w) X.A (letOwnedTupleGo tg (.ref it) u) (λ_ s2=>∃ x H',Inv X pins σ H' s2/\RelV x u/\J.yld i H x H'/\tn (i+1) s2.heap/\∀ b∈fp,H' b=none) E s1) E s
 done:∀(X:Cx),X.prog=P->X.w=w->X.K=K->X.calm=true->∀(i:Nat) (pins:List (Addr×Obj)) (s:Shared) (σ:St) (H:Hp) (E:Value->Shared->Prop),Inv X pins σ H s->(∀ b∈fp,Uz X pins H b)->tn i s.heap->J.stop i H ->
  wpAny (model P w) X.A (pyNext (.ref it)) (λr s1=>r=none/\Inv X pins σ H s1) E s
 self:∀(A:Around) (i:Nat) (s:Shared) (Q:Value->Shared->Prop) (E:Value->Shared->Prop),tn i s.heap->Q (.ref it) s->wpAny (model P w) A (pyIter (.ref it)) Q E s
abbrev TI:=St->Hp->(It->Hp->Prop)->Prop
def PIE (X:Cx)(pins:List (Addr×Obj))(σ:St)(tg:Expr)(R:It->Hp->Prop)(O:Value)(F:Shared):Prop:=
 ∃(it:Addr) (fp:List Addr) (tn:Nat->Heap->Prop) (J:It) (H':Hp),O = .ref it/\Inv X pins σ H' F/\Xu X.prog X.w X.K tg J fp it tn/\tn 0 F.heap/\(∀ b∈fp,Uz X pins H' b)/\R J H'
def PI (X:Cx)(tg iter:Expr)(wi:TI):Prop:=
 ∀(pins:List (Addr×Obj)) (s:Shared) (σ:St) (H:Hp) (R:It->Hp->Prop),Inv X pins σ H s->wi σ H R ->
  wpAny (model X.prog X.w) X.A (eval iter X.env) (λv F=>wpAny (model X.prog X.w) X.A (pyIter v) (PIE X pins σ tg R) X.xe F) X.xe s
theorem Zu {A:Around}{it:Addr}{o:Obj}{n:String}{vs:Array Value}{Q:Unit->Shared->Prop}(U:s.heap.get? it=some o)(O:o.cls = .type n)(hd:o.data = .fields vs)
 (hn:["enumerate","zip","dict_itemiterator","dict_reverseitemiterator","odict_iterator","itertools.zip_longest","itertools.pairwise"].contains n=false) (F:Q () s):wpAny M A (letOwnedTupleGo tg (.ref it) u) Q E s:=by
 unfold letOwnedTupleGo
 cases tg<;>first
  |exact A07 F
  | (cases u<;>first
   |exact A07 F
   | (refine A02 (wpAny_load U ?_)
      rw[O,hd];show wpAny M A (if(["enumerate","zip","dict_itemiterator","dict_reverseitemiterator","odict_iterator","itertools.zip_longest","itertools.pairwise"].contains n&&vs[0]? == some (rawInt _))=true then _ else _) Q E s
      rw[A0J (by intro h;rw[hn,A4Z] at h;cases h)];exact A07 F))
def Itl (K:W.Frag)(a:Addr):It:=
 ⟨λi H=>∃ xs x,SqL K H a xs/\xs[i]? = some x,λi H x H'=>H'=H/\∀ xs,SqL K H a xs->xs[i]? = some x,λi H=>∃ xs,SqL K H a xs/\xs.length<=i⟩
def Itt (K:W.Frag)(a:Addr):It:=
 ⟨λi H=>∃ xs x,SqT K H a xs/\xs[i]? = some x,λi H x H'=>H'=H/\∀ xs,SqT K H a xs->xs[i]? = some x,λi H=>∃ xs,SqT K H a xs/\xs.length<=i⟩
def Itr (lo:Int)(n:Nat):It:=⟨λi _=>i<n,λi H x H'=>H'=H/\x = .int (lo+i),λi _=>n<=i⟩
theorem Wy {w:World}{K:W.Frag}(a it:Addr):Xu P w K tg (Itl K a) [it] it (λi h=>h.IsListIter it a i) where
 mem:=by simp
 obj:=λi h st b F=>by
  have e:b=it:=by simpa using F
  subst e;obtain⟨o,e,c,d⟩:=st;exact⟨o,e,λv z=>by rw[d] at z;cases z⟩
 keep:=λi h h' st k=>st.at λo e=>k it (by simp) o e
 item:=by
  intro X hP hw hK hc i pins s σ H E I hf st hg;subst hP hw hK;obtain⟨xs,x,O,hx⟩:=hg;obtain⟨a1,rv,p,hz⟩:=I.list O;obtain⟨u,hu,ru⟩:=rv.get hx;obtain⟨U,Y,f2,Z,f4,f5⟩:=hf it (by simp);refine wpAny_pyNext_list_item st p.isList (x:=u) (by simpa using hu) λh' a0 sb=>?_;have I1:Inv X pins σ H {s with heap:=h'}:=I.turned (t':=s.toks) (λb o F e=>(sb.2 b F).trans e) U Y Z f4 f5
  obtain⟨o,e,c,d⟩:=id a0;exact⟨u,rfl,Zu (s:={s with heap:=h'}) e c d ∅ ⟨x,H,I1,ru,⟨rfl,λys hy=>by rw[I.list_inj hy O];exact hx⟩,a0,λb F=>(hf b F).1⟩⟩
 done:=by intro X hP hw hK hc i pins s σ H E I hf st hg;subst hP hw hK;obtain⟨xs,O,hx⟩:=hg;obtain⟨a1,rv,p,hz⟩:=I.list O;obtain⟨U,Y,f2,Z,f4,f5⟩:=hf it (by simp);have hl:=rv.length;exact wpAny_pyNext_list_end (I.ok.hd hc) st p.isList (by simp;omega) λh' eb=>⟨rfl,I.turned (t':=s.toks) (λb o F e=>eb b o F e) U Y Z f4 f5⟩
 self:=λ_ _ _ _ _ st h=>wpAny_pyIter_listiter st h
theorem W5 {w:World}{K:W.Frag}(a it:Addr):Xu P w K tg (Itt K a) [it] it (λi h=>h.IsTupleIter it a i) where
 mem:=by simp
 obj:=λi h st b F=>by
  have e:b=it:=by simpa using F
  subst e;obtain⟨o,e,c,d⟩:=st;exact⟨o,e,λv z=>by rw[d] at z;cases z⟩
 keep:=λi h h' st k=>st.at λo e=>k it (by simp) o e
 item:=by
  intro X hP hw hK hc i pins s σ H E I hf st hg;subst hP hw hK;obtain⟨xs,x,O,hx⟩:=hg;obtain⟨a0,rv,p,hz⟩:=I.tuple O;obtain⟨u,hu,ru⟩:=rv.get hx;obtain⟨U,Y,f2,Z,f4,f5⟩:=hf it (by simp);refine wpAny_pyNext_tuple_item st (show s.heap.IsTuple a a0.toArray from p) (x:=u) (by simpa using hu) λh' a1 sb=>?_;have I1:Inv X pins σ H {s with heap:=h'}:=I.turned (t':=s.toks) (λb o F e=>(sb.2 b F).trans e) U Y Z f4 f5
  obtain⟨o,e,c,d⟩:=id a1;exact⟨u,rfl,Zu (s:={s with heap:=h'}) e c d ∅ ⟨x,H,I1,ru,⟨rfl,λys hy=>by rw[I.tuple_inj hy O];exact hx⟩,a1,λb F=>(hf b F).1⟩⟩
 done:=by intro X hP hw hK hc i pins s σ H E I hf st hg;subst hP hw hK;obtain⟨xs,O,hx⟩:=hg;obtain⟨a0,rv,p,hz⟩:=I.tuple O;obtain⟨U,Y,f2,Z,f4,f5⟩:=hf it (by simp);have hl:=rv.length;exact wpAny_pyNext_tuple_end (I.ok.hd hc) st (show s.heap.IsTuple a a0.toArray from p) (by simp;omega) λh' eb=>⟨rfl,I.turned (t':=s.toks) (λb o F e=>eb b o F e) U Y Z f4 f5⟩
 self:=λ_ _ _ _ _ st h=>wpAny_pyIter_tupleiter st h
theorem W8 {w:World}{K:PySem.W.Frag}(it:Addr)(lo:Int)(n:Nat):Xu P w K tg (Itr lo n) [it] it (λi h=>IsRangeIter h it (lo+(i:Nat)*1) ((n:Int)-(i:Nat)) 1) where
 mem:=by simp
 obj:=λi h st b F=>by
  have e:b=it:=by simpa using F
  subst e
  exact⟨_,st,λv z=>by
   have z':Data.fields _=Data.cell v:=z
   cases z'⟩
 keep:=λi h h' st k=>k it (by simp) _ st
 item:=by
  intro X hP hw hK hc i pins s σ H E I hf st hg;subst hP hw hK;obtain⟨O,U,f2,Y,Z,f5⟩:=hf it (by simp);have W:=Walks.range (prog:=X.prog) (w:=X.w) (I.ok.hd hc) it lo 1 n;refine W.item i s _ _ hg st λv h' tk hv a0 kk=>?_;obtain⟨t,rfl⟩:=hv;have I1:Inv X pins σ H {s with heap:=h',toks:=tk}:=I.turned (λb o F e=>kk b o (by simpa using F) e) O U Y Z f5
  refine⟨_,rfl,Zu (s:={s with heap:=h',toks:=tk}) (n:="range_iterator") a0 rfl rfl ∅ ⟨.int (lo+i),H,I1,⟨t,?_⟩,⟨rfl,rfl⟩,a0,λb F=>(hf b F).1⟩⟩
  rw[Int.mul_one]
 done:=by intro X hP hw hK hc i pins s σ H E I hf st hg;subst hP hw hK;obtain⟨O,U,f2,Y,Z,f5⟩:=hf it (by simp);exact wpAny_pyNext_range_end (I.ok.hd hc) st (by have:n<=i:=hg;omega) λh' eb=>⟨rfl,I.turned (t':=s.toks) (λb o F e=>eb b o F e) O U Y Z f5⟩
 self:=λ_ _ _ _ _ st h=>wpAny_pyIter_rangeiter st h
theorem a77 {σ:St}{R:It->Hp->Prop}{lo hi:Int}{t u v:Tok}{tk:Nat}(I:Inv X pins σ H s)(h1:-(2 ^ 62)<=lo)(h2:lo<2 ^ 62)(Y:-(2 ^ 62)<=hi)(Z:hi<2 ^ 62)
 (q:R (Itr lo (hi-lo).toNat) H):wpAny (model X.prog X.w) X.A (pyIter (.ref s.heap.objs.size)) (PIE X pins σ tg R) E {s with heap:=s.heap.push {cls:=.type "range",data:=.fields #[.int lo t,.int hi u,.int 1 v]},toks:=tk}:=by
 refine wpAny_pyIter_range (IsRange.new ..) (small_one h1 h2 Y Z) ?_;have F:Inv X pins σ H {s with heap:=s.heap.push {cls:=.type "range",data:=.fields #[.int lo t,.int hi u,.int 1 v]},toks:=tk}:=I.kept λb o e=>A04 _ e
 refine⟨(s.heap.push {cls:=.type "range",data:=.fields #[.int lo t,.int hi u,.int 1 v]}).objs.size,[(s.heap.push {cls:=.type "range",data:=.fields #[.int lo t,.int hi u,.int 1 v]}).objs.size],_,_,H,rfl,
  F.kept (t':=tk) λb o e=>A04 _ e,W8 _ lo (hi-lo).toNat,?_,λb hb=>?_,q⟩
 . have O:lo+((0:Nat):Int)*1=lo:=by simp
   have U:(((hi-lo).toNat:Nat):Int)-((0:Nat):Int)=Builtin.Range.rangeSize lo hi 1:=by rw[rangeSize_one];split<;>omega
   show IsRangeIter _ _ (lo+((0:Nat):Int)*1) ((((hi-lo).toNat:Nat):Int)-((0:Nat):Int)) 1;rw[O,U];exact A0F _ rfl
 have e:b=(s.heap.push {cls:=.type "range",data:=.fields #[.int lo t,.int hi u,.int 1 v]}).objs.size:=by simpa using hb
 subst e;exact F.fpOk (A0B _) (F.hok.fresh (A0B _))
def av8 (ta:TA):TI:=fun σ H R=>ta σ H λvs H1=>∃ j:Int,vs=[.int j] /\ -(2 ^ 62)<=j/\j<2 ^ 62/\R (Itr 0 j.toNat) H1
def Cu {a:Expr}{ta:TA}{p:Pos}(U:Gl X "range")(hm:X.mg "range" = none)(ha:PA X [a] ta)(hs:starEach [a] X.env=[(false,eval a X.env)]:=by ac_nf):PI X tg (.Call (.Name "range" p) [a] [] pos) (av8 ta):=by
 intro pins s σ H R I h;refine Call_ (Kh I U hm boot_range (A1V (thn (ha pos pins s σ H _ I h) λus s1 ⟨vs,H1,O,Z,F⟩=>?_) hs rfl));obtain⟨j,e,F,Y,q⟩:=F;subst e
 cases Z with
 |cons r rr=>cases rr;obtain⟨t,rfl⟩:=r;exact call_range_1 (a77 O (by omega) (by omega) F Y (by simpa using q))
def aH8 (wi:TI)(g:TG)(tb:TS):TS:=λD σ H=>wi σ H λJ H1=>∃ W:Nat->Nat->St->Hp->Prop,(∃ m,W 0 m σ H1)/\∀ i m σ H,W i m σ H ->
 (J.stop i H/\D.nx σ H)\/(J.go i H/\∃ N:St->Hp->Prop,(∀ σ' H',N σ' H'->∃ F,F<m/\W (i+1) F σ' H')/\∀ x H',J.yld i H x H'->g x σ H' fun σ2 H2=>tb {D with nx:=N,ct:=N,bk:=D.nx} σ2 H2)
def Re (fp:List Addr)(h:Heap):List (Addr×Obj):=fp.filterMap λb=>(h.get? b).map λo=>(b,o)
def Ip {h:Heap}{o:Obj}(F:b∈fp)(e:h.get? b=some o):(b,o)∈Re fp h:=List.mem_filterMap.mpr ⟨b,F,by rw[e];rfl⟩
def Xi  {h:Heap} {p:Addr×Obj} (U:p∈Re fp h):p.1∈fp/\h.get? p.1=some p.2:=by
 obtain⟨b,O,e⟩:=List.mem_filterMap.mp U
 cases q:h.get? b with
 |none=>rw[q] at e;cases e
 |some o=>rw[q] at e;have F:(b,o)=p:=A10 e;subst F;exact⟨O,q⟩
def Inv.pinned {σ:St}(I:Inv X pins σ H s)(hf:∀ b∈fp,Uz X pins H b)(ho:∀ b∈fp,∃ o,s.heap.get? b=some o/\∀ v,o.data ≠ .cell v):Inv X (pins++Re fp s.heap) σ H s:=
 I.pins_of λp hp=>(A0O.mp hp).elim (λz=>I.pin p (A1G _ z)) λz=>by obtain⟨O,e⟩:=Xi z;obtain⟨U,Y,Z,_⟩:=hf p.1 O;obtain⟨o,F,d⟩:=ho p.1 O;rw[e] at F;cases F;exact⟨e,U,Y,Z,d⟩
def Inv.unpinned {O:List (Addr×Obj)}{σ:St}(I:Inv X (pins++O) σ H s):Inv X pins σ H s:=I.pins_of λp F=>I.pin p (A1G _ (A3V _ F))
theorem E4 {iter:Expr}{wi:TI}{g:TG}{tb:TS}(Z:PassesOwn (model X.prog X.w) X.A X.env X.xe)(hc:X.calm=true)(hi:PI X tg iter wi)(hg:PG X tg g)(U:PSs X body tb)
 (hs:∀ x,foldedSetIterable iter X.env x=pure x:=by intro _;ac_nf):PS X (.For tg iter body [] pos) (aH8 wi g tb):=by
 intro pins s σ H D I h;refine wpAny_For (thn (hi pins s σ H _ I h) λv s1 h1=>thn h1 λa8 s2 h2=>?_) hs;obtain⟨it,fp,tn,J,H2,e,I2,T,a6,f2,W,⟨m0,w0⟩,a7⟩:=h2;subst e;have a1:∀ {H':Hp},(∀ b∈fp,H' b=none)->∀ b∈fp,Uz X pins H' b:=λhn b U=>⟨hn b U,(f2 b U).2⟩;refine codeAny_forLoop_any (λn s'=>∃ i σ' H',Inv X pins σ' H' s'/\tn i s'.heap/\(∀ b∈fp,H' b=none)/\W i n σ' H') ?_ m0 ⟨0,σ,H2,I2,a6,λb U=>(f2 b U).1,w0⟩;rintro n s3 ⟨i,σ3,H3,I3,a3,a2,w3⟩;rcases a7 i n σ3 H3 w3 with ⟨stop,qn⟩|⟨go,N,hN,step⟩
 . refine A2Z Z (thn (T.done X rfl rfl rfl hc i pins s3 σ3 H3 X.xe I3 (a1 a2) a3 stop) λr s4 ⟨hr,I4⟩=>?_);subst hr;exact A4K ⟨σ3,H3,I4,qn⟩
 refine A2Z Z (thn (T.item X rfl rfl rfl hc i pins s3 σ3 H3 X.xe I3 (a1 a2) a3 go) λr s4 ⟨u,hr,h4⟩=>?_);subst hr;refine A2Z Z (thn h4 λ_ s5 ⟨x,H5,I5,r5,y5,a0,a5⟩=>?_);have a4:=I5.pinned (a1 a5) (T.obj _ _ a0);refine A2Z Z (thn (hg _ s5 σ3 H5 x u _ a4 r5 (step x H5 y5)) λ_ s6 ⟨σ6,H6,I6,q6⟩=>?_);refine A2Z Z (thn (U _ s6 σ6 H6 _ I6 q6) λf s7 Y=>?_)
 have again:∀ {σ7:St} {F:Hp},Inv X (pins++Re fp s5.heap) σ7 F s7->N σ7 F->∃ m,m<n/\∃ i σ' H',Inv X pins σ' H' s7/\tn i s7.heap/\(∀ b∈fp,H' b=none)/\W i m σ' H':=fun {σ7 F} O n7=>by obtain⟨m',hm,w7⟩:=hN σ7 F n7;refine⟨m',hm,i+1,σ7,F,O.unpinned,T.keep _ _ _ a0 λb U o e=>(O.pin (b,o) (A1G _ (A1G _ (Ip U e)))).1,λb U=>?_,w7⟩;obtain⟨o,e,d⟩:=T.obj _ _ a0 b U;exact(O.pin (b,o) (A1G _ (A1G _ (Ip U e)))).2.1
 cases f with
 |next=>obtain⟨σ7,F,O,n7⟩:=Y;exact again O n7
 |cont=>obtain⟨σ7,F,O,n7⟩:=Y;exact again O n7
 |brk=>obtain⟨σ7,F,O,Y⟩:=Y;exact⟨σ7,F,O.unpinned,Y⟩
 |ret v=>obtain⟨x7,σ7,F,O,r7,Y⟩:=Y;exact⟨x7,σ7,F,O.unpinned,r7,Y⟩
abbrev R2:=V->V->Hp->VK->Prop
variable {r:R2}
def OpR (X:Cx)(f:Value->Value->Sem Value)(r:R2):Prop:=
 ∀(pins:List (Addr×Obj)) (s:Shared) (σ:St) (H:Hp) (x y:V) (v u:Value) (Q:VK),Inv X pins σ H s->RelV x v->RelV y u->r x y H Q ->
  wpAny (model X.prog X.w) X.A (f v u) (EP X pins σ Q) X.xe s
def UnR (X:Cx)(f:Value->Sem Value)(r:V->Hp->VK->Prop):Prop:=
 ∀(pins:List (Addr×Obj)) (s:Shared) (σ:St) (H:Hp) (x:V) (v:Value) (Q:VK),Inv X pins σ H s->RelV x v->r x H Q ->
  wpAny (model X.prog X.w) X.A (f v) (EP X pins σ Q) X.xe s
def CallR (X:Cx)(f:Value)(r:List V->Hp->VK->Prop):Prop:=
 ∀(pins:List (Addr×Obj)) (s:Shared) (σ:St) (H:Hp) (xs:List V) (us:List Value) (Q:VK),Inv X pins σ H s->Vals xs us->r xs H Q ->
  wpAny (model X.prog X.w) X.A (call f us) (EP X pins σ Q) X.xe s
def tOp (r:R2)(ta tb:TE):TE:=fun σ H Q=>ta σ H λx H1=>tb σ H1 λy H2=>r x y H2 Q
def tUn (r:V->Hp->VK->Prop)(ta:TE):TE:=fun σ H Q=>ta σ H λx H1=>r x H1 Q
def rI (C:Int->Int->Prop)(g:Int->Int->V):R2:=λx y H Q=>∃ i j,x = .int i/\y = .int j/\C i j/\Q (g i j) H
def rI0 (g:Int->Int->V):R2:=λx y H Q=>∃ i j,x = .int i/\y = .int j/\Q (g i j) H
def rU (g:Int->V):V->Hp->VK->Prop:=λx H Q=>∃ i,x = .int i/\Q (g i) H
section
variable {a b c:Expr}{ta tb tc:TE}
def aE6 (ha:PE X a ta)(Y:PE X b tb){σ:St}{R:V->V->Hp->Prop}(I:Inv X pins σ H s)
 (h:ta σ H λx H1=>tb σ H1 λy H2=>R x y H2)  
 (hf:∀ v u F x y H2,Inv X pins σ H2 F->RelV x v->RelV y u->R x y H2->wpAny (model X.prog X.w) X.A (f v u) Q X.xe F) :
 wpAny (model X.prog X.w) X.A (eval a X.env) (λv s₁=>wpAny (model X.prog X.w) X.A (eval b X.env) (λu s₂=>wpAny (model X.prog X.w) X.A (f v u) Q X.xe s₂) X.xe s₁) X.xe s:=by
 refine thn (ha pins s σ H _ I h) λv s1 ⟨x,H1,O,r1,Z⟩=>?_;refine thn (Y pins s1 σ H1 _ O Z) λu F ⟨y,H2,U,r2,q2⟩=>?_;exact hf v u F x y H2 U r1 r2 q2
def B1 {op:Operator}(U:OpR X (binaryOp op) r)(ha:PE X a ta)(O:PE X b tb):PE X (.BinOp a op b pos) (tOp r ta tb):=by intro pins s σ H Q I h;exact wpAny_BinOp (aE6 ha O I h λv u s2 x y H2 F Y Z q=>U pins s2 σ H2 x y v u Q F Y Z q)
def Wm {op:UnaryOp}{r:V->Hp->VK->Prop}(O:UnR X (unaryOp op) r)(ha:PE X a ta):PE X (.UnaryOp op a pos) (tUn r ta):=by intro pins s σ H Q I h;exact UnaryOp_ (thn (ha pins s σ H _ I h) λv Z ⟨x,H1,F,Y,U⟩=>O pins Z σ H1 x v Q F Y U)
def opI {C:Int->Int->Prop}{g:Int->Int->Int}
 (rule:∀(i j:Int) (t u:Tok) (s:Shared) (Q:Value->Shared->Prop) (E:Value->Shared->Prop),C i j->Q (.int (g i j) s.toks) {s with toks:=s.toks+1}->wpAny (model X.prog X.w) X.A (f (.int i t) (.int j u)) Q E s) :
 OpR X f (rI C λi j=>.int (g i j)):=by
 intro pins s σ H x y v u Q I O U h;obtain⟨i,j,rfl,rfl,F,q⟩:=h;obtain⟨t,rfl⟩:=O;obtain⟨t',rfl⟩:=U;exact rule i j t t' s _ _ F ⟨.int (g i j),H,I.tok _,⟨_,rfl⟩,q⟩
def aI0 {g:Int->Int->Int}
 (rule:∀(i j:Int) (t u:Tok) (s:Shared) (Q:Value->Shared->Prop) (E:Value->Shared->Prop),Q (.int (g i j) s.toks) {s with toks:=s.toks+1}->wpAny (model X.prog X.w) X.A (f (.int i t) (.int j u)) Q E s) :
 OpR X f (rI0 λi j=>.int (g i j)):=by
 intro pins s σ H x y v u Q I F O h;obtain⟨i,j,rfl,rfl,q⟩:=h;obtain⟨t,rfl⟩:=F;obtain⟨t',rfl⟩:=O;exact rule i j t t' s _ _ ⟨.int (g i j),H,I.tok _,⟨_,rfl⟩,q⟩
def aB4 {g:Int->Int->Bool}
 (rule:∀(i j:Int) (t u:Tok) (s:Shared) (Q:Value->Shared->Prop) (E:Value->Shared->Prop),Q (.bool (g i j)) s->wpAny (model X.prog X.w) X.A (f (.int i t) (.int j u)) Q E s) :
 OpR X f (rI0 λi j=>.bl (g i j)):=by
 intro pins s σ H x y v u Q I F O h;obtain⟨i,j,rfl,rfl,q⟩:=h;obtain⟨t,rfl⟩:=F;obtain⟨t',rfl⟩:=O;exact rule i j t t' s _ _ ⟨.bl (g i j),H,I,rfl,q⟩
def aF3 (i j:Int):Prop:=0<j/\j<1073741824
def aF4 (i j:Int):Prop:=0<=j/\j<=1000000/\i.natAbs<2 ^ 64
def CMul (i j:Int):Prop:=(-(2 ^ 64)<i/\i<2 ^ 64)\/(-(2 ^ 64)<j/\j<2 ^ 64)
def CMul.ok {i j:Int}(h:CMul i j):IntMulOk i j:=by
 rcases h with ⟨h1,h2⟩|⟨h1,h2⟩
 . exact .of_left (intBits_le_64 h1 h2)
 exact .of_right (intBits_le_64 h1 h2)
def op_add:OpR X (binaryOp .Add) (rI0 λi j=>.int (i+j)):=aI0 λ_ _ _ _ _ _ _ q=>add_int q
def Np:OpR X (binaryOp .Sub) (rI0 λi j=>.int (i-j)):=aI0 λ_ _ _ _ _ _ _ q=>sub_int q
def op_mul:OpR X (binaryOp .Mult) (rI CMul λi j=>.int (i*j)):=opI λ_ _ _ _ _ _ _ F q=>mul_int q F.ok
def aj0:OpR X (binaryOp .FloorDiv) (rI aF3 λi j=>.int (i / j)):=opI λi j _ _ _ _ _ F q=>by have h1:(0:Int)<j:=F.1;have h2:j<1073741824:=F.2;exact floordiv_int (by omega) (by rw[Int.fdiv_eq_ediv_of_nonneg i (by omega)];exact q) (.inl (PyProof.noPylong_small (by omega)))
def Lz:OpR X (binaryOp .Mod) (rI (λ_ j=>0<j) λi j=>.int (i % j)):=opI λi j _ _ _ _ _ F q=>by have h1:(0:Int)<j:=F;exact mod_int' (by omega) (by rw[Int.fmod_eq_emod_of_nonneg i (by omega)];exact q)
def ax2:OpR X (binaryOp .Pow) (rI aF4 λi j=>.int (i ^ j.toNat)):=opI λ_ _ _ _ _ _ _ F q=>pow_int_small F.1 F.2.1 F.2.2 q
def unI {f:Value->Sem Value}{g:Int->Int}
 (rule:∀(i:Int) (t:Tok) (s:Shared) (Q:Value->Shared->Prop) (E:Value->Shared->Prop),Q (.int (g i) s.toks) {s with toks:=s.toks+1}->wpAny (model X.prog X.w) X.A (f (.int i t)) Q E s) :
 UnR X f (rU λi=>.int (g i)):=by
 intro pins s σ H x v Q I F h;obtain⟨i,rfl,q⟩:=h;obtain⟨t,rfl⟩:=F;exact rule i t s _ _ ⟨.int (g i),H,I.tok _,⟨_,rfl⟩,q⟩
def Ol:UnR X (unaryOp .USub) (rU λi=>.int (-i)):=unI λ_ _ _ _ _ q=>neg_int q
end
def aB2:V->V->Bool
 |.non,.non=>true | .non,.int _=>true | .int _,.non=>true | .non,.bl _=>true | .bl _,.non=>true | .non,.str _=>true | .str _,.non=>true
 |.int _,.int _=>true | .bl _,.bl _=>true | .str _,.str _=>true | .byt _,.byt _=>true
 |.int _,.str _=>true | .str _,.int _=>true | .bl _,.str _=>true | .str _,.bl _=>true
 |_,_=>false
def rEq:R2:=λx y H Q=>aB2 x y=true/\Q (.bl (decide (x=y))) H
def rNe:R2:=λx y H Q=>aB2 x y=true/\Q (.bl (!decide (x=y))) H
def a09 {i j:Int}:decide (V.int i=V.int j)=(i==j):=by rw[A15];simp
def ab7 {i j:Bool}:decide (V.bl i=V.bl j)=(i==j):=by rw[A15];simp
def Yl {i j:Str}:decide (V.str i=V.str j)=(i==j):=by rw[A15];simp
def Zx {i j:Array UInt8}:decide (V.byt i=V.byt j)=(i.toList==j.toList):=by
 rw[A15]
 cases i
 cases j;simp
section
variable {a b c:Expr}{ta tb tc:TE}
def Bi {σ:St}{Q:VK}{k F:Bool}(I:Inv X pins σ H s)(q:Q (.bl k) H)(e:k=F):EP X pins σ Q (.bool F) s:=by subst e;exact⟨.bl k,H,I,rfl,q⟩
theorem op_eq:OpR X (compareOp .Eq) rEq:=by
 intro pins s σ H x y v u Q I O F h;obtain⟨hs,q⟩:=h
 cases x with
 |non=>
   cases O
   cases y with
   |non=>cases F;exact PySem.EqNone.eq_none_none (Bi I q (by simp))
   |bl j=>cases F;exact PySem.EqNone.eq_none_bool (Bi I q (by simp))
   |int j=>obtain⟨t',rfl⟩:=F;exact PySem.EqNone.eq_none_int (Bi I q (by simp))
   |str j=>obtain⟨t',rfl⟩:=F;exact PySem.EqNone.eq_none_str (Bi I q (by simp))
   |_=>exact absurd (show false=true from hs) A0C
 |bl i=>
   cases O
   cases y with
   |non=>cases F;exact PySem.EqNone.eq_bool_none (Bi I q (by simp))
   |bl j=>cases F;exact eq_bool (Bi I q ab7)
   |str j=>obtain⟨t',rfl⟩:=F;exact PySem.EqMixed.eq_bool_str (Bi I q (by simp))
   |_=>exact absurd (show false=true from hs) A0C
 |int i=>
   obtain⟨t,rfl⟩:=O
   cases y with
   |non=>cases F;exact PySem.EqNone.eq_int_none (Bi I q (by simp))
   |int j=>obtain⟨t',rfl⟩:=F;exact eq_int (Bi I q a09)
   |str j=>obtain⟨t',rfl⟩:=F;exact PySem.EqMixed.eq_int_str (Bi I q (by simp))
   |_=>exact absurd (show false=true from hs) A0C
 |str i=>
   obtain⟨t,rfl⟩:=O
   cases y with
   |non=>cases F;exact PySem.EqNone.eq_str_none (Bi I q (by simp))
   |bl j=>cases F;exact PySem.EqMixed.eq_str_bool (Bi I q (by simp))
   |int j=>obtain⟨t',rfl⟩:=F;exact PySem.EqMixed.eq_str_int (Bi I q (by simp))
   |str j=>obtain⟨t',rfl⟩:=F;exact eq_str (Bi I q Yl)
   |_=>exact absurd (show false=true from hs) A0C
 |byt i=>
   obtain⟨t,rfl⟩:=O
   cases y with
   |byt j=>obtain⟨t',rfl⟩:=F;exact W.eq_bytes (Bi I q Zx)
   |_=>exact absurd (show false=true from hs) A0C
 |_=>cases y<;>exact absurd (show false=true from hs) A0C
theorem op_ne:OpR X (compareOp .NotEq) rNe:=by
 intro pins s σ H x y v u Q I O F h;obtain⟨hs,q⟩:=h
 cases x with
 |non=>
   cases O
   cases y with
   |non=>cases F;exact PySem.EqNone.ne_none_none (Bi I q (by simp))
   |bl j=>cases F;exact PySem.EqNone.ne_none_bool (Bi I q (by simp))
   |int j=>obtain⟨t',rfl⟩:=F;exact PySem.EqNone.ne_none_int (Bi I q (by simp))
   |str j=>obtain⟨t',rfl⟩:=F;exact PySem.EqNone.ne_none_str (Bi I q (by simp))
   |_=>exact absurd (show false=true from hs) A0C
 |bl i=>
   cases O
   cases y with
   |non=>cases F;exact PySem.EqNone.ne_bool_none (Bi I q (by simp))
   |bl j=>cases F;exact ne_bool (Bi I q (congrArg not ab7))
   |str j=>obtain⟨t',rfl⟩:=F;exact PySem.EqMixed.ne_bool_str (Bi I q (by simp))
   |_=>exact absurd (show false=true from hs) A0C
 |int i=>
   obtain⟨t,rfl⟩:=O
   cases y with
   |non=>cases F;exact PySem.EqNone.ne_int_none (Bi I q (by simp))
   |int j=>obtain⟨t',rfl⟩:=F;exact ne_int (Bi I q (congrArg not a09))
   |str j=>obtain⟨t',rfl⟩:=F;exact PySem.EqMixed.ne_int_str (Bi I q (by simp))
   |_=>exact absurd (show false=true from hs) A0C
 |str i=>
   obtain⟨t,rfl⟩:=O
   cases y with
   |non=>cases F;exact PySem.EqNone.ne_str_none (Bi I q (by simp))
   |bl j=>cases F;exact PySem.EqMixed.ne_str_bool (Bi I q (by simp))
   |int j=>obtain⟨t',rfl⟩:=F;exact PySem.EqMixed.ne_str_int (Bi I q (by simp))
   |str j=>obtain⟨t',rfl⟩:=F;exact ne_str (Bi I q (congrArg not Yl))
   |_=>exact absurd (show false=true from hs) A0C
 |byt i=>
   obtain⟨t,rfl⟩:=O
   cases y with
   |byt j=>obtain⟨t',rfl⟩:=F;exact W.ne_bytes (Bi I q (congrArg not Zx))
   |_=>exact absurd (show false=true from hs) A0C
 |_=>cases y<;>exact absurd (show false=true from hs) A0C
def Ws:OpR X (compareOp .Lt) (rI0 λi j=>.bl (decide (i<j))):=aB4 λ_ _ _ _ _ _ _ q=>lt_int q
def Tj:OpR X (compareOp .LtE) (rI0 λi j=>.bl (decide (i<=j))):=aB4 λ_ _ _ _ _ _ _ q=>le_int q
def Vs:OpR X (compareOp .Gt) (rI0 λi j=>.bl (decide (j<i))):=aB4 λ_ _ _ _ _ _ _ q=>gt_int q
def an1:OpR X (compareOp .GtE) (rI0 λi j=>.bl (decide (j<=i))):=aB4 λ_ _ _ _ _ _ _ q=>ge_int q
def op_in_str:OpR X (compareOp .In) (λx y H Q=>∃ i j,x = .str i/\y = .str j/\Q (.bl (!(Builtin.Str.occurrences j i 0 j.length 1).isEmpty)) H):=by intro pins s σ H x y v u Q I F O h;obtain⟨i,j,rfl,rfl,q⟩:=h;obtain⟨t,rfl⟩:=F;obtain⟨t',rfl⟩:=O;exact in_str (Bi I q rfl)
def au6:OpR X (compareOp .Is) (λx y H Q=>y = .non/\Q (.bl (decide (x = .non))) H):=by
 intro pins s σ H x y v u Q I F O h;obtain⟨rfl,q⟩:=h
 cases O;refine is_none_gen (Bi I q ?_)
 cases x<;>first
  | (cases F;rfl)
  | (obtain⟨t,rfl⟩:=F;rfl)
def ag4:OpR X (compareOp .IsNot) (λx y H Q=>y = .non/\Q (.bl (!decide (x = .non))) H):=by
 intro pins s σ H x y v u Q I F O h;obtain⟨rfl,q⟩:=h
 cases O;refine isnot_none_gen (Bi I q ?_)
 cases x<;>first
  | (cases F;rfl)
  | (obtain⟨t,rfl⟩:=F;rfl)
def OpR.or {F:R2}(h:OpR X f r)(h':OpR X f F):OpR X f (λx y H Q=>r x y H Q\/F x y H Q):=by
 intro pins s σ H x y v u Q I O U q;rcases q with q|q
 . exact h pins s σ H x y v u Q I O U q
 exact h' pins s σ H x y v u Q I O U q
def Ac (b:Expr)(h:op ≠ .In:=by decide)(h2:op ≠ .NotIn:=by decide):behindInMarks op b=false:=by
 have F:(op==CmpOp.In)=false:=by cases op<;>first | rfl | exact absurd rfl h
 have O:(op==CmpOp.NotIn)=false:=by cases op<;>first | rfl | exact absurd rfl h2
 cases b<;>simp[behindInMarks,F,O]
def At (U:OpR X (compareOp op) r)(ha:PE X a ta)(O:PE X b tb)(hm:behindInMarks op b=false):PE X (.Compare a [op] [b] pos) (tOp r ta tb):=by intro pins s σ H Q I h;exact wpAny_Compare1 (aE6 ha O I h λv u s2 x y H2 F Y Z q=>U pins s2 σ H2 x y v u Q F Y Z q) hm
def ak6 (t:TE):TT:=fun σ H Q=>t σ H λx H'=>∃ k,x = .bl k/\Q k H'
def A7 (ho:OpR X (compareOp op) r)(ha:PE X a ta)(Z:PE X b tb)(hm:behindInMarks op b=false):PT X (.Compare a [op] [b] pos) (ak6 (tOp r ta tb)):=by
 intro pins s σ H Q I h
 refine wpAny_isTrue_Compare1 (thn (ha pins s σ H _ I h) λv s1 ⟨x,H1,O,r1,q1⟩=>thn (Z pins s1 σ H1 _ O q1) λu s2 ⟨y,H2,U,r2,q2⟩=>thn (ho pins s2 σ H2 x y v u _ U r1 r2 q2) λc s3 ⟨z,F,Y,r3,k,e,q3⟩=>?_) hm
 subst e
 cases r3;exact A1Q ⟨F,Y,q3⟩
def ab3 (r U:R2)(ta tb tc:TE):TE:=fun σ H Q=>ta σ H λx H1=>tb σ H1 λy H2=>r x y H2 λz F=>∃ k,z = .bl k /\
 (if k=true then tc σ F λY O=>U y Y O Q else Q (.bl false) F)
theorem Pa {F:CmpOp}{Z:R2}(ho:OpR X (compareOp op) r)(a0:OpR X (compareOp F) Z)(ha:PE X a ta)(hb:PE X b tb)(hc:PE X c tc)
 (hm:lastMarks [op,F] [b,c]=false:=by ac_nf):PT X (.Compare a [op,F] [b,c] pos) (ak6 (ab3 r Z ta tb tc)):=by
 intro pins s σ H Q I h
 refine isTrue_chain (thn (ha pins s σ H _ I h) λv s1 ⟨x,H1,I1,r1,q1⟩=>test_link (thn (hb pins s1 σ H1 _ I1 q1) λu s2 ⟨y,H2,I2,r2,q2⟩=>thn (ho pins s2 σ H2 x y v u _ I2 r1 r2 q2) λd s3 ⟨z,O,U,r3,k,e,Y⟩=>?_)) hm
 subst e
 cases r3;refine A1Q ?_
 cases k with
 |false=>
   obtain⟨k',e',q'⟩:=Y
   cases e';exact ite_ff ⟨O,U,q'⟩
 |true=>
   refine ite_tt (test_last (thn (hc pins s3 σ O _ U Y) λw' s4 ⟨z',H4,I4,r4,q4⟩=>thn (a0 pins s4 σ H4 y z' u w' _ I4 r2 r4 q4) λd' s5 ⟨z2,H5,I5,r5,k2,e2,q5⟩=>?_));subst e2
   cases r5;exact A1Q ⟨H5,I5,q5⟩
def Uu:(sizeLine:Nat)<2 ^ 63:=by rw[A0T];decide
def op_add_str:OpR X (binaryOp .Add) (λx y H Q=>∃ i j,x = .str i/\y = .str j/\i.length+j.length<=sizeLine/\Q (.str (i++j)) H):=by intro pins s σ H x y v u Q I F O h;obtain⟨i,j,rfl,rfl,hz,q⟩:=h;obtain⟨t,rfl⟩:=F;obtain⟨t',rfl⟩:=O;exact add_str (λt' tk=>⟨.str (i++j),H,I.tok _,⟨_,rfl⟩,q⟩) hz
def Jq {x:V}(r:Vals [x] us):∃ u,us=[u]/\RelV x u:=by
 cases r with
 |cons r1 r2=>cases r2;exact⟨_,rfl,r1⟩
def Sw {x y:V}(r:Vals [x,y] us):∃ u F,us=[u,F]/\RelV x u/\RelV y F:=by
 cases r with
 |cons r1 r2=>
   cases r2 with
   |cons r3 r4=>cases r4;exact⟨_,_,rfl,r1,r3⟩
def Yv (O:X.calm=true):CallR X (.builtin "max") (λxs H Q=>∃ i j,xs=[.int i,.int j]/\Q (.int (if j>i then j else i)) H):=by
 intro pins s σ H xs us Q I r h;obtain⟨i,j,rfl,q⟩:=h;obtain⟨u,U,rfl,⟨t,rfl⟩,⟨t',rfl⟩⟩:=Sw r;refine max_two_ints (I.ok.hd O) λh' tk k=>⟨_,H,I.kept k,?_,q⟩
 by_cases F:j>i
 . rw[A0K F,A0K F];exact⟨_,rfl⟩
 rw[A0J F,A0J F];exact⟨_,rfl⟩
def X8:CallR X (.type "int") (λxs H Q=>(∃ i,xs=[.int i]/\Q (.int i) H)\/∃ k,xs=[.bl k]/\Q (.int (if k then 1 else 0)) H):=by
 intro pins s σ H xs us Q I r h;rcases h with ⟨i,rfl,q⟩|⟨k,rfl,q⟩
 . obtain⟨u,rfl,t,rfl⟩:=Jq r;exact call_int_int ⟨.int i,H,I,⟨_,rfl⟩,q⟩
 obtain⟨u,rfl,F⟩:=Jq r
 cases F;exact call_int_bool ⟨.int (if k then 1 else 0),H,I.tok _,⟨_,rfl⟩,q⟩
def aG2 (K:W.Frag)(x:V)(H:Hp)(n:Nat):Prop:=
 match x with
 |.str y=>y.length<=sizeLine/\n=y.length
 |.byt y=>y.size<=sizeLine/\n=y.size
 |.ref p=>(∃ xs,SqL K H p xs/\n=xs.length)\/∃ xs,SqT K H p xs/\n=xs.length
 |_=>False
theorem call_len:CallR X (.builtin "len") (λxs H Q=>∃ x n,xs=[x]/\aG2 X.K x H n/\Q (.int n) H):=by
 intro pins s σ H xs us Q I r h;obtain⟨x,n,rfl,e,q⟩:=h;obtain ⟨u,rfl,rx⟩:=Jq r;have hl:=Uu;have hs:sizeLine=16777216:=A0T
 cases x with
 |str y=>obtain⟨t,rfl⟩:=rx;obtain⟨hy,F⟩:y.length<=sizeLine/\n=y.length:=e;subst F;exact len_str (by omega) ⟨.int _,H,I.tok _,⟨_,rfl⟩,q⟩
 |byt y=>obtain⟨t,rfl⟩:=rx;obtain⟨hy,F⟩:y.size<=sizeLine/\n=y.size:=e;subst F;exact W.len_bytes (by omega) ⟨.int _,H,I.tok _,⟨_,rfl⟩,q⟩
 |ref p=>
   cases rx;have F:(∃ xs,SqL X.K H p xs/\n=xs.length)\/∃ xs,SqT X.K H p xs/\n=xs.length:=e;rcases F with ⟨xs,U,F⟩|⟨xs,U,F⟩
   . subst F;obtain⟨a0,Z,Y,hz⟩:=I.list U;have O:=Z.length;exact Calls.call_len_list Y.isList (by simp only[List.size_toArray];omega) ⟨.int xs.length,H,I.tok _,⟨_,by simp only[List.size_toArray];rw[O]⟩,q⟩
   subst F;obtain⟨a0,Z,Y,hz⟩:=I.tuple U;have O:=Z.length;exact len_tuple Y (by simp only[List.size_toArray];omega) ⟨.int xs.length,H,I.tok _,⟨_,by simp only[List.size_toArray];rw[O]⟩,q⟩
 |_=>exact(show False from e).elim
end
structure ObjM (h:Heap)(x dx C:Addr)(mA:Str->Option Value):Prop where
 obj:h.get? x=some (W.instObj C dx)
 ns:h.Ns1 dx mA
 ne:dx≠x
theorem Se {h:Heap}{dx:Addr}{mA:Str->Option Value}(n:h.Ns1 dx mA):∃ od,h.get? dx=some od/\∀ name,W.lookIn name od=some (mA name):=by
 obtain⟨o,es,ep,Y,hd,O,_,hm⟩:=n;refine⟨o,Y,λname=>?_⟩;have e:=hm name;unfold nsFind findBy at e;rw[<- Array.find?_toList] at e;unfold W.lookIn;rw[hd];dsimp only
 split
 . rename_i y q;rw[q] at e;exact congrArg some e
 rename_i q;rw[q] at e
 have a:es.toList.any (·.refKey)=false:=by rw[A32];intro y Z;obtain⟨z,t,U⟩:=O y (Array.mem_toList_iff.mp Z);simp[DictEntry.refKey,U]
 have F:¬ es.toList.any (·.refKey)=true:=by rw[a];exact A0C
 rw[A0J F];exact congrArg some e
def ObjM.look {h:Heap}{x dx:Addr}{mA:Str->Option Value}(I:ObjM h x dx C mA):∃ od,W.InstAt h x (W.instObj C dx) C (some od)/\∀ name,W.lookIn name od=some (mA name):=
 let ⟨od,ho,hl⟩:=Se I.ns
 ⟨od,⟨I.obj,rfl,rfl,ho⟩,hl⟩
section
variable {prog:Program}{w:World}{A:Around}{K:W.Frag}{x dx f:Addr}{mA:Str->Option Value}{name:Str}{v:Value}
end
def ak7 (f:Str) (v:V):List (Str×V)->List (Str×V)
 | []=>[(f,v)]
 | (g,x) :: r=>if g=f then(g,v) :: r else(g,x) :: ak7 f v r
theorem Nf (f g:Str)(v:V):∀ fs:List (Str×V),(ak7 f v fs).lookup g=if g=f then some v else fs.lookup g
 | []=>by
   show List.lookup g [(f,v)]=_
   by_cases h:g=f
   . have F:(g==f)=true:=A2V.mpr h;simp only[List.lookup,F,if_pos h]
   have F:(g==f)=false:=A11.mpr h;simp only[List.lookup,F,if_neg h]
 | (k,x) :: r=>by
   have U:=Nf f g v r;rw[show ak7 f v ((k,x) :: r)=(if k=f then(k,v) :: r else(k,x) :: ak7 f v r) from rfl]
   by_cases O:k=f
   . rw[A0K O]
     by_cases h:g=k
     . have F:(g==k)=true:=A2V.mpr h;simp only[List.lookup,F,if_pos (h.trans O)]
     have F:(g==k)=false:=A11.mpr h;simp only[List.lookup,F,if_neg (λe:g=f=>h (e.trans O.symm))]
   rw[A0J O]
   by_cases h:g=k
   . have F:(g==k)=true:=A2V.mpr h;simp only[List.lookup,F,if_neg (λe:g=f=>O (h.symm.trans e))]
   have F:(g==k)=false:=A11.mpr h;simp only[List.lookup,F];exact U
def RelO.some_of {o:Option Value}(r:RelO (some v) o):∃ u,o=some u/\RelV v u:=by
 cases o with
 |none=>exact(show False from r).elim
 |some u=>exact⟨u,rfl,r⟩
def RelO.none_of {o:Option Value}(r:RelO none o):o=none:=by
 cases o with
 |none=>rfl
 |some u=>exact(show False from r).elim
def X5 (r:RelV v u):W.handedIn u=true:=by
 cases v with
 |non=>cases (show u=Value.none from r);rfl
 |bl b=>cases (show u=Value.bool b from r);rfl
 |int i=>obtain⟨t,e⟩:=(show ∃ t,u=Value.int i t from r);cases e;rfl
 |str x=>obtain⟨t,e⟩:=(show ∃ t,u=Value.str x t from r);cases e;rfl
 |byt b=>obtain⟨t,e⟩:=(show ∃ t,u=Value.bytes b t from r);cases e;rfl
 |flt b=>obtain⟨t,e⟩:=(show ∃ t,u=Value.float b t from r);cases e;rfl
 |ref a=>cases (show u=Value.ref a from r);rfl
 |ty n=>cases (show u=Value.type n from r);rfl
section
variable {w:World}{H':Hp}{h h':Heap}{dx:Addr}{fs fs':List (Str×V)}
def ah3 (hok:HOk P w H h)(e:H a=some (.ins C dx fs)):∃ mA,ObjM h a dx C mA/\(∀ f,RelO (fs.lookup f) (mA f))/\PySem.Within mA (fs.map (·.1))/\fs.length<=1000/\H dx=some (.own a):=by obtain⟨d,z,ne,F,mA,n,r,q⟩:=(show ObjOk P w H h a (.ins C dx fs) from hok a _ e);exact⟨mA,⟨F,n,ne⟩,r,q,z,d⟩
end
structure Cls (K:W.Frag)(C:Addr):Prop where
 pg:W.plainGet K C Str.empty=true
 hd:W.hasDictIn K C=true
 po:W.plainOver K C=true
 sa:W.findIn K (.ref C) "__setattr__" = some (some (.builtin "object.__setattr__"))
def Cls.get {K:W.Frag}(c:Cls K C)(f:Str):W.plainGet K C f=true:=c.pg
def Hb (K:W.Frag)(C:Addr)(f:Str):Prop:=W.findIn K (.ref C) f=some none
section
variable {σ:St}{dx:Addr}{fs:List (Str×V)}{f:Str}{A:Around}
def ah9 {prog:Program}{w:World}{env:Env}(F:attributeBase e f env (eval e env)=eval e env)
 (h:wpAny (model prog w) A (eval e env) (λo O=>wpAny (model prog w) A (getAttr o f true) Q E O) E s):wpAny (model prog w) A (eval (.Attribute e f pos) env) Q E s:=
 Attribute_any_ h (by rw[arm_eval_Attribute,F])
end
section
variable {o value:Expr}{f:Str}{pos' tpos:Pos}{ta tv:TE}
end
section
variable {σ:St}{A:Around}{c:Value}{b:Bool}
inductive TyOf (K:W.Frag)(H:Hp):V->Value->Prop where
 |non:TyOf K H .non (.type "NoneType")
 |bl (x:Bool):TyOf K H (.bl x) (.type "bool")
 |int (i:Int):TyOf K H (.int i) (.type "int")
 |str (x:Str):TyOf K H (.str x) (.type "str")
 |flt (x:UInt64):TyOf K H (.flt x) (.type "float")
 |lst {a:Addr} {xs:List V} (e:H a=some (.lst xs)):TyOf K H (.ref a) (.type "list")
 |frz {a:Addr} {o:Obj} {xs:List V} (e:H a=some (.frz o (.lst xs))):TyOf K H (.ref a) (.type "list")
 |tup {a:Addr} {xs:List V} (e:H a=some (.tup xs)):TyOf K H (.ref a) (.type "tuple")
 |dK {a:Addr} {kvs:List (Key×V)} (e:H a=some (.dK kvs)):TyOf K H (.ref a) (.type "dict")
 |dT {a:Addr} {kvs:List (List Key×V)} (e:H a=some (.dT kvs)):TyOf K H (.ref a) (.type "dict")
 |ins {a C dx:Addr} {fs:List (Str×V)} (e:H a=some (.ins C dx fs)) (cl:Cls K C) (ha:W.findIn K (.ref C) "__class__" = some (some (.builtin "object.__class__")))
  (hn:W.specialIn K (.builtin "object.__class__") "__get__" = some (some (.builtin "getset_descriptor.__get__"))) (htk:W.takesIn K (.builtin "object.__class__")=some true)
  (hm:W.mroIn K C (.type "object")=some true):TyOf K H (.ref a) (.ref C)
theorem Sj {x:V}{t:Value}(I:Inv X pins σ H s)(F:RelV x u)(ty:TyOf X.K H x t)(e:W.kitOne X.K t c=some b)(h:∀ tk,Q (.bool b) {s with toks:=tk}) :
 wpAny (model X.prog X.w) A (call (.builtin "isinstance") [u,c]) Q E s:=by
 cases ty with
 |non=>cases (show u=Value.none from F);exact A1F W.kitx_none I.kIn A23 e (λz=>nomatch z) h
 |bl y=>cases (show u=Value.bool y from F);exact A1F W.kitx_bool I.kIn A23 e (λz=>nomatch z) h
 |int i=>obtain⟨t,q⟩:=(show ∃ t,u=Value.int i t from F);cases q;exact A1F W.kitx_int I.kIn A23 e (λz=>nomatch z) h
 |str y=>obtain⟨t,q⟩:=(show ∃ t,u=Value.str y t from F);cases q;exact A1F W.kitx_str I.kIn A23 e (λz=>nomatch z) h
 |flt y=>obtain⟨t,q⟩:=(show ∃ t,u=Value.float y t from F);cases q;exact A1F W.kitx_float I.kIn A23 e (λz=>nomatch z) h
 |@lst a xs ea=>cases (show u=Value.ref a from F);obtain⟨_,_,n,_,h1⟩:=(show ObjOk X.prog X.w H s.heap a (.lst xs) from I.hok a _ ea);exact A1F W.kitx_list I.kIn ⟨_,h1,rfl⟩ e (λz=>nomatch z) h
 |@frz a ob xs ea=>cases (show u=Value.ref a from F);obtain⟨_,_,_,n,_,h1⟩:=(show ObjOk X.prog X.w H s.heap a (.frz ob (.lst xs)) from I.hok a _ ea);exact A1F W.kitx_list I.kIn ⟨_,h1,rfl⟩ e (λz=>nomatch z) h
 |@tup a xs ea=>cases (show u=Value.ref a from F);obtain⟨_,_,_,p⟩:=(show ObjOk X.prog X.w H s.heap a (.tup xs) from I.hok a _ ea);obtain⟨o,h1,h2,_⟩:=p;exact A1F W.kitx_tuple I.kIn ⟨o,h1,h2⟩ e (λz=>nomatch z) h
 |@dK a kvs ea=>cases (show u=Value.ref a from F);obtain⟨_,_,vs,_,p⟩:=(show ObjOk X.prog X.w H s.heap a (.dK kvs) from I.hok a _ ea);obtain⟨o,es,U,h1,h2,_⟩:=p;exact A1F W.kitx_dict I.kIn ⟨o,h1,h2.1⟩ e (λz=>nomatch z) h
 |@dT a kvs ea=>cases (show u=Value.ref a from F);obtain⟨_,_,xs,_,o,es,U,h1,h2,_⟩:=(show ObjOk X.prog X.w H s.heap a (.dT kvs) from I.hok a _ ea);exact A1F W.kitx_dict I.kIn ⟨o,h1,h2.1⟩ e (λz=>nomatch z) h
 |@ins a C dx fs ea cl ha hn htk hm=>cases (show u=Value.ref a from F);obtain⟨mA,O,_⟩:=ah3 I.hok ea;obtain⟨od,J,_⟩:=O.look;exact A1F (W.kitx_own (cl.get _) cl.hd ha hn htk hm) I.kIn J e (λz=>nomatch z) h
end
structure Room (k:Nat)(A:Around):Prop where
 hd:A.handled=none
 dp:A.depth+3*k+5<recursionLimit
 un:A.units+16*k+200<cLine
 gd:A.guards=some []
def Room.mono {j k:Nat}{A:Around}(r:Room k A)(h:j<=k):Room j A:=⟨r.hd,by have:=r.dp;omega,by have:=r.un;omega,r.gd⟩
theorem Room.deeper {k:Nat}{A:Around}(r:Room (k+1) A)(env:Env):Room k (A.deeper env):=
 ⟨r.hd,by have:=r.dp;show A.depth+1+3*k+5<_;omega,by have:=r.un;show A.units+3+16*k+200<_;omega,r.gd⟩
def Vm {A:Around}{F:List (Str×Value)}:(A.under (.builtin "type.__call__" ⟨.ref C :: us,F⟩)).depth=A.depth+1:=by first | rfl | simp[Around.under,Code.weight,Code.isCreation,Code.isGuard,Code.isCaller,Code.frames,Code.isFrame,guardIds]
def We {A:Around}{F:List (Str×Value)}:(A.under (.builtin "type.__call__" ⟨.ref C :: us,F⟩)).units=A.units+1:=by first | rfl | simp[Around.under,Code.cUnits,Code.frames,Code.isFrame]
def Room.make {k:Nat}{A:Around}(r:Room (k+1) A)(C:Addr)(us:List Value)(F:List (Str×Value)):Room k (A.under (.builtin "type.__call__" ⟨.ref C :: us,F⟩)):=
 ⟨r.hd,by have:=r.dp;rw[Vm];omega,by have:=r.un;rw[We];omega,(by first | exact r.gd | (simpa[Around.under,Code.isGuard,guardIds,pushGuards] using r.gd))⟩
theorem Room.depth {k:Nat}{A:Around}(r:Room k A):A.depth<recursionLimit:=by have:=r.dp;omega
theorem Room.units {k:Nat}{A:Around}(r:Room k A):A.units+64<cLine:=by have:=r.un;omega
def aG6:TA:=λ_ H Q=>Q [] H
def ap8 (ta:TE)(tr:TA):TA:=fun σ H Q=>ta σ H λx H1=>tr σ H1 λxs H2=>Q (x :: xs) H2
section
variable {es:List Expr}{te:TE}{t:TA}
def A1:PA X [] aG6:=λ_ _ _ _ H Q I h=>Calls.spliced_nil ⟨[],H,I,.nil,h⟩
def A0 (ha:PE X e te)(U:PA X es t)(hs:starEach (e :: es) X.env=(false,eval e X.env) :: starEach es X.env:=by ac_nf):PA X (e :: es) (ap8 te t):=by intro pos pins s σ H Q I h;rw[hs];show wpAny _ _ (spliced ((false,eval e X.env) :: backTo pos (starEach es X.env))) _ _ s;refine A42 (thn (ha pins s σ H _ I h) λu s1 ⟨x,H1,F,r1,Y⟩=>?_);exact thn (U pos pins s1 σ H1 _ F Y) λus s2 ⟨xs,H2,O,r2,Z⟩=>⟨x :: xs,H2,O,.cons r1 r2,Z⟩
def aG1 (t:TA):TE:=fun σ H Q=>t σ H λxs H1=>xs.length<=sizeLine/\∀ p,H1 p=none->Q (.ref p) (upd H1 p (.tup xs))
def aI3 (t:TA):TE:=fun σ H Q=>t σ H λxs H1=>xs.length<=sizeLine/\∀ p,H1 p=none->Q (.ref p) (upd H1 p (.lst xs))
def B0 {x1}(h:PA X es t):PE X (.Tuple es x1 pos) (aG1 t):=by intro pins s σ H Q I U;refine wpAny_Tuple_spliced (thn (h pos pins s σ H _ I U) λus F ⟨xs,H1,O,r,z,q⟩=>⟨by rw[<- r.length];exact z,?_⟩);have hf:H1 F.heap.objs.size=none:=O.hok.fresh (A0B _);refine⟨.ref F.heap.objs.size,upd H1 F.heap.objs.size (.tup xs),O.laid (t':=F.toks) (λb u e=>A04 _ e) (A0B _) ?_,rfl,q _ hf⟩;exact⟨z,us,r,⟨_,A0F _ rfl,rfl,⟨_,rfl⟩,rfl⟩⟩
def Bm (h:PA X es t):PE X (.List es pos) (aI3 t):=by intro pins s σ H Q I U;refine wpAny_List_spliced (thn (h pos pins s σ H _ I U) λus F ⟨xs,H1,O,r,z,q⟩=>⟨by rw[<- r.length];exact z,?_⟩);have hf:H1 F.heap.objs.size=none:=O.hok.fresh (A0B _);refine⟨.ref F.heap.objs.size,upd H1 F.heap.objs.size (.lst xs),O.laid (t':=F.toks) (λb u e=>A04 _ e) (A0B _) ?_,rfl,q _ hf⟩;exact⟨z,us,0,r,A0F _ rfl⟩
end
abbrev Sp:=List V->Hp->VK->XK->Prop
abbrev CXT:=List Env->Hp->Shared->XK->Value->Shared->Prop
structure Env0 (P:Program)(w:World)(K:W.Frag)(mg:Str->Option Value)(base:Heap)(A:Around)(outer:List Env)(s:Shared)(H:Hp):Prop where
 frames:A.frames=some outer
 mod:Mod K mg base
 bs:∀ b o,base.get? b=some o->s.heap.get? b=some o/\H b=none
 bsz:base.objs.size<=s.heap.objs.size
 funs:s.heap.FunFrames base outer
 frf:∀ b∈frs outer,H b=none
 hok:HOk P w H s.heap
 bare:AllBare s.gens
def CE (outer:List Env)(P:Program)(w:World)(H:Hp)(s:Shared)(Q:VK)(u:Value)(s':Shared):Prop:=
 ∃ v H',s'.os=s.os/\AllBare s'.gens/\Un (frs outer) [] H H' s.heap s'.heap/\HOk P w H' s'.heap/\RelV v u/\Q v H'
def CR (CX:CXT)(outer:List Env)(P:Program)(w:World)(H:Hp)(s:Shared)(Q:VK)(E:XK)(r:Result)(s':Shared):Prop:=
 match r with
 |.ok (.ret u)=>CE outer P w H s Q u s'
 |.ok _=>False
 |.error e=>CX outer H s E e s'
structure FnOk (P:Program)(w:World)(K:W.Frag)(mg:Str->Option Value)(base:Heap)(CX:CXT)(k:Nat)(f:Addr)(fd:FuncData)(ps:List Str)(sp:Sp):Prop where
 len:∀ vs H Q E,sp vs H Q E->vs.length=ps.length
 run:∀(A:Around) (outer:List Env) (s:Shared) (H:Hp) (args:Args) (us:List Value) (vs:List V) (Q:VK) (E:XK),Room k A->Env0 P w K mg base A outer s H->BindsTo s fd args (ps.zip us)->Vals vs us->sp vs H Q E ->
  codeAny (model P w) A (.call (.ref f) args) (CR CX outer P w H s Q E) s
def Env0.make {w:World}{K:W.Frag}{mg:Str->Option Value}{base:Heap}{A:Around}{outer:List Env}(e:Env0 P w K mg base A outer s H)(C:Addr)(us:List Value)(F:List (Str×Value)) :
 Env0 P w K mg base (A.under (.builtin "type.__call__" ⟨.ref C :: us,F⟩)) outer s H:=⟨by first | exact e.frames | (simpa[Around.under,Code.envs,Code.isFrame,pushEnvs] using e.frames),e.mod,e.bs,e.bsz,e.funs,e.frf,e.hok,e.bare⟩
section
variable {σ:St}{s':Shared}
def Inv.env0 (I:Inv X pins σ H s):Env0 X.prog X.w X.K X.mg X.base X.A X.stack s H:=
 ⟨I.ok.frames,I.ok.mod,I.bs,A0M I.ok.bsz I.sz,I.stack,I.stkFree,I.hok,I.bare⟩
def Inv.after {Q:VK}(I:Inv X pins σ H s)(h:CE X.stack X.prog X.w H s Q u s'):EP X pins σ Q u s':=by obtain⟨v,H',os,bare,un,hok,r,q⟩:=h;obtain⟨F,g,d,t,O⟩:=s';obtain rfl:O=s.os:=os;exact⟨v,H',I.call (h':=F) (g':=g) (d':=d) (t':=t) (ch:=[]) un hok bare (λb z=>absurd z (by simp)),r,q⟩
end
def a78 (sp:Sp)(dvs:List V)(E:XK)(t:TA):TE:=fun σ H Q=>t σ H λvs H1=>sp (vs++dvs) H1 Q E
def Binds (K:W.Frag)(fd:FuncData)(ps:List Str)(ds:List Value):Prop:=
 ∀(s:Shared) (us:List Value),K.In s.heap->(us++ds).length=ps.length->BindsTo s fd ⟨us,[]⟩ (ps.zip (us++ds))
def Binds.all {K:W.Frag}{fd:FuncData}{ps:List Str}(h:∀ us:List Value,us.length=ps.length->bindArgs fd ⟨us,[]⟩=pure (ps.zip us)):Binds K fd ps []:=λs us _ hl=>by rw[A2B] at hl ⊢;exact .of_eq (h us hl)
def Qw (CX:CXT)(X:Cx)(E:XK):Prop:=∀(pins:List (Addr×Obj)) (σ:St) (H:Hp) (s:Shared) (e:Value) (s':Shared),Inv X pins σ H s->CX X.stack H s E e s'->X.xe e s'
section
variable {CX:CXT}{k:Nat}{f:Addr}{fd:FuncData}{ps:List Str}{sp:Sp}{dvs:List V}{ds:List Value}{E:XK}{m:Str}{p apos:Pos}{o:Expr}{es:List Expr}{ta:TE}{t:TA}
theorem au7 {σ:St}{Q:VK}{vs:List V}(F:FnOk X.prog X.w X.K X.mg X.base CX k f fd ps sp)(Z:Room k X.A)(Y:Binds X.K fd ps ds)(hd:Vals dvs ds)(hx:Qw CX X E)
 (I:Inv X pins σ H s) (r:Vals vs us) (h:sp (vs++dvs) H Q E):wpAny (model X.prog X.w) X.A (call (.ref f) us) (EP X pins σ Q) X.xe s:=by
 have U:Vals (vs++dvs) (us++ds):=r.append hd;have hl:(us++ds).length=ps.length:=by rw[<- U.length];exact F.len _ _ _ _ h
 refine A4S (A43 (F.run X.A X.stack s H ⟨us,[]⟩ (us++ds) (vs++dvs) Q E Z I.env0 (Y s us I.kIn hl) U h) λr s' O=>?_)
 cases r with
 |error e=>exact hx pins σ H s e s' I O
 |ok fl=>
   cases fl with
   |ret u=>exact I.after O
   |next=>exact False.elim O
   |brk=>exact False.elim O
   |cont=>exact False.elim O
theorem Xz (F:FnOk X.prog X.w X.K X.mg X.base CX k f fd ps sp)(hr:Room k X.A)(hg:Gl X x)(hm:X.mg x=some (.ref f))(hk:W.keepIn X.K (.ref f)=true)(U:Binds X.K fd ps ds)(hd:Vals dvs ds)(hx:Qw CX X E)
 (ha:PA X (e :: es) t) (Y:(x==("__debug__":Str))=false:=by decide) (Z:starEach (e :: es) X.env=(false,eval e X.env) :: starEach es X.env:=by ac_nf) (a0:(backTo pos (starEach es X.env)).any (·.1)=false:=by ac_nf) :
 PE X (.Call (.Name x p) (e :: es) [] pos) (a78 sp dvs E t):=by
 intro pins s σ H Q I h;refine A2X (Pn I hg hm ?_ Y);refine W.callWith_K (h₀:=X.base) I.ok.mod.kin hk (thn (ha pos pins s σ H _ I h) λus s1 ⟨vs,H1,O,r,q⟩=>⟨O.kIn,?_⟩) Z a0;exact au7 F hr U hd hx O r q
end
section
variable {CX:CXT}{k:Nat}{f:Addr}{fd:FuncData}{ps ks:List Str}{sp:Sp}{E:XK}{m:Str}{p apos kpos:Pos}{o:Expr}{es:List Expr}{kws:List Keyword}{te ta:TE}{t tk:TA}{nm:Option Str}
variable {g:List Value->List Value->List Value}{gV:List V->List V->List V}
end
structure Am (N P:List Str)(sc:Scope):Prop where
 kind:sc.kind = .function
 co:sc.isCoroutine=false
 gen:sc.isGenerator=false
 nd:N.Nodup
 pre:N.take P.length=P
 par:∀ x∈P,sc.names.lookup x=some .local\/sc.names.lookup x=some .cell
 nofree:∀ y∈sc.names,y.2 ≠ .free
theorem Qu {kindOf:Str->Option NameKind}{x:Str}:∀ {binds:List (Str×Value)} {m:Str->Option Value},(∀ v,(x,v)∉binds)->bindL kindOf binds m x=m x
 | [],_,_=>rfl
 | (n,v) :: r,m,h=>by
   unfold bindL;rw[Qu λw hw=>h w (A0I _ hw)]
   split
   . have:x≠n:=by rintro rfl;exact h v A16
     simp[this]
   rfl
theorem Sn {kindOf:Str->Option NameKind}{x:Str}:∀ {binds:List (Str×Value)} {m:Str->Option Value},(∀ v,(x,v)∉binds)->bindC kindOf binds m x=m x
 | [],_,_=>rfl
 | (n,v) :: r,m,h=>by
   unfold bindC;rw[Sn λw hw=>h w (A0I _ hw)]
   split
   . rfl
   have:x≠n:=by rintro rfl;exact h v A16
   simp[this]
theorem Qj {kindOf:Str->Option NameKind} {x:Str} {v:Value}:∀ {P:List Str} {vs:List Value} {i:Nat} {m:Str->Option Value},P.Nodup->P[i]? = some x->vs[i]? = some v->kindOf x=some .local ->
 bindL kindOf (P.zip vs) m x=some v
 | [],_,_,_,_,h,_,_=>by simp at h
 |_ :: _,[],_,_,_,_,h,_=>by simp at h
 |p :: P,w :: vs,0,m,nd,h1,h2,hk=>by simp at h1 h2;subst h1;subst h2;show bindL kindOf ((p,w) :: P.zip vs) m p=_;unfold bindL;rw[Qu λv F=>(A12.mp nd).1 (A4L F).1,A0K hk];simp
 |p :: P,w :: vs,i+1,m,nd,h1,h2,hk=>by show bindL kindOf ((p,w) :: P.zip vs) m x=_;unfold bindL;exact Qj (i:=i) (List.nodup_cons.mp nd).2 (by simpa using h1) (by simpa using h2) hk
theorem Rm {kindOf:Str->Option NameKind} {x:Str} {v:Value}:∀ {P:List Str} {vs:List Value} {i:Nat} {m:Str->Option Value},P.Nodup->P[i]? = some x->vs[i]? = some v->kindOf x≠some .local ->
 bindC kindOf (P.zip vs) m x=some v
 | [],_,_,_,_,h,_,_=>by simp at h
 |_ :: _,[],_,_,_,_,h,_=>by simp at h
 |p :: P,w :: vs,0,m,nd,h1,h2,hk=>by simp at h1 h2;subst h1;subst h2;show bindC kindOf ((p,w) :: P.zip vs) m p=_;unfold bindC;rw[Sn λv F=>(A12.mp nd).1 (A4L F).1,A0J hk];simp
 |p :: P,w :: vs,i+1,m,nd,h1,h2,hk=>by show bindC kindOf ((p,w) :: P.zip vs) m x=_;unfold bindC;exact Rm (i:=i) (List.nodup_cons.mp nd).2 (by simpa using h1) (by simpa using h2) hk
def Pq (N:List Str)(vs:List V):St:=vs.map some++List.replicate (N.length-vs.length) none
def a15 (CX:CXT)(P:Program)(w:World)(K:W.Frag)(mg:Str->Option Value)(base:Heap)(N:List Str)(qual:Str)(scope:Scope)(f:Addr)(cd:Value)(A:Around)(outer:List Env)(s:Shared)(H:Hp)(E:XK):Cx where
 prog:=P
 w:=w
 K:=K
 mg:=mg
 base:=base
 A:=A.deeper (envOfC qual scope s.heap.objs.size f cd)
 N:=N
 s₀:=s
 H₀:=H
 env:=envOfC qual scope s.heap.objs.size f cd
 outer:=outer
 stack:=envOfC qual scope s.heap.objs.size f cd :: outer
 ex:=[]
 calm:=true
 fn:=λ_=>true
 pn:=[]
 xe:=λe s'=>wpAny (model P w) (A.deeper (envOfC qual scope s.heap.objs.size f cd)) (leaving (envOfC qual scope s.heap.objs.size f cd) e) (λ_ F=>CX outer H s E e F) (λO F=>CX outer H s E O F) s'
def Uf {sc:Scope}{n:Nat}(h:sc.names.lookup x=some .cell):∃ c,(cellsFrom n sc.names []).lookup x=some c:=by have q:=W.cellsFrom_some sc.names n [] (.inl h);exact Option.isSome_iff_exists.mp q
theorem X2 {CX:CXT}{w:World}{K:W.Frag}{mg:Str->Option Value}{base:Heap}{N ps:List Str}{qual:Str}{scope:Scope}{f:Addr}{cd:Value}{A:Around}{outer:List Env}{s1:Shared}{E:XK}{vs:List V}
 (S:Am N ps scope) (hd:A.handled=none) (F:Env0 P w K mg base A outer s H) (hl:vs.length=ps.length) (r:Vals vs us)
 (x:InCallC s s.heap.objs.size (bindL (envOfC qual scope s.heap.objs.size f cd).kindOf (ps.zip us) λ_=>none) (cellsFrom (s.heap.objs.size+1) scope.names []) (bindC (envOfC qual scope s.heap.objs.size f cd).kindOf (ps.zip us) λ_=>none) s1) :
 Inv (a15 CX P w K mg base N qual scope f cd A outer s H E) [] (Pq N vs) H s1:=by
 have a1:ps.length<=N.length:=by have:=congrArg List.length S.pre;rw[A0S] at this;omega
 obtain⟨h1,tk,rfl,Z⟩:=x.done;have Y:∀ b:Addr,b∉(a15 CX P w K mg base N qual scope f cd A outer s H E).ex:=λb z=>absurd (show b∈([]:List Addr) from z) (by simp)
 refine⟨⟨F.mod,S.kind,rfl,rfl,A0B _,λy z c h1 h2=>?_,λy O=>?_,λy c _ h=>?_,λ_=>hd,Around.frames_deeper F.frames,.inr ⟨rfl,rfl⟩,λb z=>absurd z (Y b),F.bs,F.bsz,λb _ _=>Y b,λb z=>absurd z (Y b),F.funs,F.frf⟩,
  rfl,F.bare,Un.kept Z,⟨_,x.toInCall.ns,λi y v h1 h2 h3=>?_⟩,λy c h=>⟨_,x.cell y c h⟩,F.hok.fresh (Nat.le_refl _),λy c h=>?_,λp U=>absurd (show p∈([]:List (Addr×Obj)) from U) (by simp),F.hok.kept Z,?_⟩
 . exact name_of_addr x.apart (A2P h1) (A2P h2)
 . have O:scope.names.lookup y=some .cell\/scope.names.lookup y=some .free:=O;rcases O with O|O
   . exact Uf O
   exact absurd rfl (S.nofree _ (A2P O))
 . exact A27 (x.above y c (A2P h))
 . have hi:i<vs.length:=by
    unfold Pq at h2
    by_cases hi:i<vs.length
    . exact hi
    rw[List.getElem?_append_right (by simpa using hi)] at h2;rw[A4E] at h2
    split at h2<;>cases h2
   have ha:vs[i]? = some v:=by
    unfold Pq at h2;rw[List.getElem?_append_left (by simpa using hi),List.getElem?_map] at h2
    cases e:vs[i]? with
    |none=>rw[e] at h2;cases h2
    |some a=>rw[e] at h2;cases h2;rfl
   obtain⟨u,hu,rv⟩:=r.get ha
   have U:ps[i]? = some y:=by rw[<- S.pre,List.getElem?_take_of_lt (by omega)];exact h1
   have a0:ps.Nodup:=by rw[<- S.pre];exact S.nd.sublist (List.take_sublist _ _)
   refine⟨u,rv,?_⟩;rcases S.par y (A05 U) with k|k
   . exact .inl ⟨k,Qj a0 U hu k⟩
   obtain⟨c,e⟩:=Uf (n:=s.heap.objs.size+1) k;refine .inr ⟨.inl k,c,e,?_⟩;have q:=x.cell y c e;rw[Rm a0 U hu (by show scope.names.lookup y≠_;rw[k];decide)] at q;exact q
 . exact F.hok.fresh (A27 (x.above y c (A2P h)))
 unfold Pq;show _=N.length;rw[A08,A01,A1R];omega
theorem aw1 {CX:CXT}{w:World}{K:W.Frag}{mg:Str->Option Value}{base:Heap}{k:Nat}{f:Addr}{name qual:Str}{a3:Arguments}{scope:Scope}{dV kV a0 pm F ct oc:Value}{an od:Option Addr}
 {osl:Array (Option Value)} {N ps:List Str} {sp:Sp} (lk:K.lookup f=some ⟨oc,od,.func (W.fnOf name qual a3 body scope dV kV a0 pm an F ct),osl⟩) (a5:W.codeIn K F qual=true) (S:Am N ps scope)
 (len:∀ vs H Q E,sp vs H Q E->vs.length=ps.length)
 (a4:∀(A:Around) (outer:List Env) (s:Shared) (H:Hp) (vs:List V) (Q:VK) (E:XK),Room k (A.deeper (envOfC qual scope s.heap.objs.size f F))->sp vs H Q E ->
  ∃ t,PSs (a15 CX P w K mg base N qual scope f F A outer s H E) body t/\t {nx:=λ_ H'=>Q .non H',rt:=Q} (Pq N vs) H) :
 FnOk P w K mg base CX (k+1) f (W.fnOf name qual a3 body scope dV kV a0 pm an F ct) ps sp:=by
 refine⟨len,λA outer s H args us vs Q E U O hb r a2=>?_⟩;have hl:=len _ _ _ _ a2;have Z:K.In s.heap:=O.mod.kin.keeps λb o e=>(O.bs b o e).1;have a7:s.heap.NoLimit:=O.mod.nolimit.keeps λb o e=>(O.bs b o e).1
 have a6:∀ y∈ps.zip us,scope.names.lookup y.1=some .local\/(scope.names.lookup y.1=some .cell/\((cellsFrom (s.heap.objs.size+1) scope.names []).lookup y.1).isSome=true):=λ⟨n,v⟩ hy=>by
  rcases S.par n (A4L hy).1 with q|q
  . exact .inl q
  exact .inr ⟨q,W.cellsFrom_some _ _ _ (.inl q)⟩
 refine codeAny_call_function U.depth (Z _ _ lk) rfl S.co S.gen rfl (W.codeRec_of Z a5) (hb _ _ _ _ ?_);refine wpAny_newFunctionEnv_cells S.kind a6 λenv he s1 x=>?_;subst he;refine⟨a7.keeps x.toInCall.keep,codeAny_func ?_⟩;obtain⟨t,ht,hq⟩:=a4 A outer s H vs Q E (U.deeper _) a2;have I:Inv (a15 CX P w K mg base N qual scope f F A outer s H E) [] (Pq N vs) H s1:=X2 S U.hd O hl r x;refine A22 (ht [] s1 (Pq N vs) H _ I hq) (λfl s' hs=>?_) λe s' hs=>hs
 have a1:∀ {σ':St} {H':Hp} {v:V} {u:Value},Inv (a15 CX P w K mg base N qual scope f F A outer s H E) [] σ' H' s'->RelV v u->Q v H'->CE outer P w H s Q u s':=
  fun {σ' H' v u} J Y q=>⟨v,H',J.os,J.bare,J.base,J.hok,Y,q⟩
 cases fl with
 |ret u=>obtain⟨v,σ',H',J,Y,q⟩:=hs;exact a1 J Y q
 |next=>obtain⟨σ',H',J,q⟩:=hs;exact a1 (v:=V.non) (u:=Value.none) J rfl q
 |brk=>obtain⟨_,_,_,q⟩:=hs;exact False.elim q
 |cont=>obtain⟨_,_,_,q⟩:=hs;exact False.elim q
section
variable {p:Pos}{es:List Expr}{t:TA}{id T:String}{r:List V->Hp->VK->Prop}
def tCB (r:List V->Hp->VK->Prop)(t:TA):TE:=fun σ H Q=>t σ H λvs H1=>r vs H1 Q
def A6 (O:CallR X (.builtin id) r)(Z:Gl X x)(hm:X.mg x=none)(hv:bootBuiltins x=some (.builtin id))(ha:PA X (e :: es) t)(hn:x ≠ "__name__":=by decide)(U:(x==("__debug__":Str))=false:=by decide)
 (Y:starEach (e :: es) X.env=(false,eval e X.env) :: starEach es X.env:=by ac_nf) (a0:(backTo pos (starEach es X.env)).any (·.1)=false:=by ac_nf):PE X (.Call (.Name x p) (e :: es) [] pos) (tCB r t):=by
 intro pins s σ H Q I h;refine A2X (Kh I Z hm hv ?_ hn U);exact PyProof.Rows.callWith_builtin1 (thn (ha pos pins s σ H _ I h) λus s1 ⟨vs,H1,F,r1,q1⟩=>O pins s1 σ H1 vs us Q F r1 q1) Y a0
def Bd (O:CallR X (.type T) r)(Z:Gl X x)(hm:X.mg x=none)(hv:bootBuiltins x=some (.type T))(ha:PA X (e :: es) t)(hn:x ≠ "__name__":=by decide)(U:(x==("__debug__":Str))=false:=by decide)
 (Y:starEach (e :: es) X.env=(false,eval e X.env) :: starEach es X.env:=by ac_nf) (a0:(backTo pos (starEach es X.env)).any (·.1)=false:=by ac_nf):PE X (.Call (.Name x p) (e :: es) [] pos) (tCB r t):=by
 intro pins s σ H Q I h;refine A2X (Kh I Z hm hv ?_ hn U);exact A1V (thn (ha pos pins s σ H _ I h) λus s1 ⟨vs,H1,F,r1,q1⟩=>O pins s1 σ H1 vs us Q F r1 q1) Y a0
end
end L2
namespace HT
open PySem PyProof.Rows
section
open PySem.SeqAt
open PySem.AutoSeq1 (wpAny_loadPart')
open PySem.MeetsSeq PySem.MeetsSeq2 PySem.MeetsSeq3
end
section
variable {prog:Program}{w:World}{A:Around}{E:Value->Shared->Prop}{s:Shared}
theorem cat_tup {t b:Addr}{vs O:List Value}{Q:Value->Shared->Prop}(ht:IsTup s.heap t vs.toArray)(hb:IsTup s.heap b O.toArray)(hv:vs≠[])
 (h1:O=[]->Q (.ref t) s) (h2:O≠[]->Q (.ref s.heap.objs.size) {s with heap:=s.heap.push {cls:=.type "tuple",data:=.seq (vs++O).toArray}})
 (hsz:vs.length+O.length<=sizeLine):wpAny (model prog w) A (binaryOp .Add (.ref t) (.ref b)) Q E s:=by
 obtain⟨⟨cls,Z,data,sl⟩,U,hc,n,hd⟩:=id ht;obtain⟨⟨a4,a0,data2,a3⟩,Y,a1,n2,a2⟩:=id hb;simp only at hc hd a1 a2;subst hc hd a1 a2;have e:vs.toArray++O.toArray=(vs++O).toArray:=by simp
 by_cases hw:O=[]
 . exact concat_meets ⟨_,U,rfl⟩ ⟨_,Y,rfl⟩ noFill_tuple_add seq_tuple_add PySem.F.slot_tuple_add PySem.F.entry_tuple_add (PySem.F.args_tuple_add_2 _ _)
    (tuple_addW1 t b vs.toArray O.toArray n n2 Z a0 sl a3 (by simpa using hv) (by simp[hw])) ⟨U,Y,h1 hw⟩
 refine concat_meets ⟨_,U,rfl⟩ ⟨_,Y,rfl⟩ noFill_tuple_add seq_tuple_add PySem.F.slot_tuple_add PySem.F.entry_tuple_add (PySem.F.args_tuple_add_2 _ _)
  (tuple_addW2 t b vs.toArray O.toArray n n2 Z a0 sl a3 (by simpa using hv) (by simpa using hw) (by rw[List.size_toArray,List.size_toArray];exact hsz)) ⟨U,Y,?_⟩
 rw[e];exact h2 hw
def sIx (n d:Nat):Option Int->Nat
 |none=>d
 |some v=>if v<0 then(v+(n:Int)).toNat else min v.toNat n
def aw0 (n d:Nat)(hd:d<=n)(o:Option Int):sIx n d o<=n:=by
 cases o with
 |none=>exact hd
 |some v=>
   show(if v<0 then(v+(n:Int)).toNat else min v.toNat n)<=n
   by_cases F:v<0
   . rw[A0K F];omega
   rw[A0J F];exact A3U _ _
def Xc (v:Int)(n d:Nat):(if v<0 then max (v+(n:Int)) 0 else min v (n:Int))=((sIx n d (some v):Nat):Int):=by
 show(if v<0 then max (v+(n:Int)) 0 else min v (n:Int))=(((if v<0 then(v+(n:Int)).toNat else min v.toNat n):Nat):Int)
 by_cases F:v<0
 . simp only[if_pos F];omega
 simp only[if_neg F];omega
def Wt (lo hi:Option Int)(n:Nat):Builtin.Slice.sliceAdjust lo hi 1 (n:Int)=(((sIx n 0 lo:Nat):Int),((sIx n n hi:Nat):Int)):=by
 have h1:¬ ((1:Int)<0):=by omega
 unfold Builtin.Slice.sliceAdjust;simp only[h1,if_false];refine Prod.ext ?_ ?_
 . cases lo with
   |none=>rfl
   |some v=>exact Xc v n 0
 cases hi with
 |none=>rfl
 |some v=>exact Xc v n n
def Vl (i j:Nat):Builtin.Slice.slicePlaces (i:Int) (j:Int) 1=j-i:=by
 unfold Builtin.Slice.slicePlaces;have h1:(1:Int)>0:=by omega
 simp only[h1,if_true,Int.ediv_one]
 split<;>omega
def O6 {v:Value}{o:Option Int}{Q:Option Int->Shared->Prop}(p:IsPart v o)(h:Q o s):wpAny (model prog w) A (Builtin.Slice.slicePartIndex v) Q E s:=by
 cases p with
 |none=>exact slicePart_none h
 |int i t=>exact slicePart_int h
theorem sliceApplied_gen {Z:Addr}{U Y:Value}{lo hi:Option Int}{n:Nat}{Q:Int×Int×Nat->Shared->Prop}(hs:s.heap.IsSliceOf Z U Y .none)(pl:IsPart U lo)(pu:IsPart Y hi)
 (h:Q (((sIx n 0 lo:Nat):Int),1,sIx n n hi-sIx n 0 lo) s):wpAny (model prog w) A (Builtin.Slice.sliceApplied (.ref Z) (pure (n:Int))) Q E s:=by
 obtain⟨os,O,a0,F⟩:=id hs;unfold Builtin.Slice.sliceApplied Builtin.Slice.sliceFields;refine A02 (A02 (A1E O F (x:=U) rfl (A02 (A1E O F (x:=Y) rfl (A02 (A1E O F (x:=.none) rfl (A07 ?_)))))));refine A02 (slicePart_none ?_);show wpAny _ _ (if((1:Int)==0)=true then _ else _) _ _ s
 rw[A0J ∅];refine A02 (O6 pl (A02 (O6 pu (A02 (A07 ?_)))));show wpAny _ _ (match Builtin.Slice.sliceAdjust lo hi 1 (n:Int) with | (lo,hi)=>pure (lo,(1:Int),Builtin.Slice.slicePlaces lo hi 1)) _ _ s
 rw[Wt lo hi n];show wpAny _ _ (pure (((sIx n 0 lo:Nat):Int),(1:Int),Builtin.Slice.slicePlaces ((sIx n 0 lo:Nat):Int) ((sIx n n hi:Nat):Int) 1)) _ _ s;rw[Vl];exact A07 h
def a24 (xs:Array Value)(i k:Nat):((List.range k).filterMap λ(m:Nat)=>xs[((i:Int)+(m:Int)*1).toNat]?).toArray=((xs.toList.drop i).take k).toArray:=by
 have e:(λ(m:Nat)=>xs[((i:Int)+(m:Int)*1).toNat]?)=λm=>xs[i+m]?:=by
  funext m;have:((i:Int)+(m:Int)*1).toNat=i+m:=by omega
  rw[this]
 rw[e];have:=pick_run xs i k;rw[List.filterMap_map] at this;have F:((λx=>xs[x]?)∘λx=>i+x)=λm=>xs[i+m]?:=rfl;rw[F] at this;rw[this]
theorem getItem_tuple_cut {t U:Addr}{items:Array Value}{Y Z:Value}{lo hi:Option Int}{Q:Value->Shared->Prop}(F:IsTup s.heap t items)(hs:s.heap.IsSliceOf U Y Z .none)(pl:IsPart Y lo)(pu:IsPart Z hi)
 (hw:¬ (sIx items.size 0 lo=0/\sIx items.size items.size hi=items.size))
 (h:Q (.ref s.heap.objs.size) {s with heap:=s.heap.push {cls:=.type "tuple",data:=.seq ((items.toList.drop (sIx items.size 0 lo)).take (sIx items.size items.size hi-sIx items.size 0 lo)).toArray}})
 (hsz:items.size<=sizeLine):wpAny (model prog w) A (getItem (.ref t) (.ref U)) Q E s:=by
 have O:sizeOk (.seq ((items.toList.drop (sIx items.size 0 lo)).take (sIx items.size items.size hi-sIx items.size 0 lo)).toArray):=by show((items.toList.drop (sIx items.size 0 lo)).take (sIx items.size items.size hi-sIx items.size 0 lo)).toArray.size<=sizeLine;rw[A0E,A0S,A1N,A1O];omega
 have hj:sIx items.size items.size hi<=items.size:=aw0 _ _ (A0B _) hi;obtain⟨os,a3,a1,a4⟩:=id hs;have a0:s.TypeIs (.ref U) "slice":=⟨os,a3,a1⟩;unfold getItem
 try with_reducible refine A19 ?_
 first | refine A02 (A07 ?_) | skip
 refine A02 (wpAny_sequenceKey F.typeIs ∅ ?_)
 refine A02 (A25 (name:=Str.ofString "__getitem__") F.typeIs A2I
  (A24 A2I F.typeIs entry_tuple_getitem ?_ (args_tuple_getitem _ _)))
 show wpAny _ _ (Builtin.Tuple.tupleItemsOf (.ref t) >>= _) _ _ s;refine A02 (tupleItemsOf_ F ?_);refine A02 (A4M a0 ?_);rw[A0K ∅];refine A02 (sliceApplied_gen hs pl pu ?_)
 have a2:¬ ((((sIx items.size 0 lo:Nat):Int)==0&&(1:Int)==1&&(sIx items.size items.size hi-sIx items.size 0 lo)==items.size)=true):=by intro q;rw[A0W,A0W] at q;have q1:((sIx items.size 0 lo:Nat):Int)=0:=eq_of_beq q.1.1;have q2:sIx items.size items.size hi-sIx items.size 0 lo=items.size:=eq_of_beq q.2;exact hw ⟨by omega,by omega⟩
 show wpAny _ _ (if(((sIx items.size 0 lo:Nat):Int)==0&&(1:Int)==1&&(sIx items.size items.size hi-sIx items.size 0 lo)==items.size)=true then _ else _) _ _ s
 rw[A0J a2,a24]
 first
  |exact A02 (m:=Builtin.Tuple.tupleExact _) (A2J (A07 ⟨_,rfl,A07 h⟩) O)
  |exact A02 (m:=Builtin.Tuple.tupleExact _) (A2J (A02 (A07 (A07 ⟨_,rfl,A07 h⟩))) O)
  |exact A02 (A02 (m:=Builtin.Tuple.tupleExact _) (A2J (A07 (A07 ⟨_,rfl,A07 h⟩)) O))
  |exact A02 (A02 (m:=Builtin.Tuple.tupleExact _) (A2J (A07 ⟨_,rfl,A07 h⟩) O))
end
end HT
namespace L2
open PySem PySem.Spec PyProof.Rows
variable {a:Addr}{X:Cx}{H H':Hp}{pins:List (Addr×Obj)}{xs:List (List Key×Addr×Value)}{kvs:List (List Key×V)}{us:List Value}{t':Nat}{pos:Pos}{P:Program}{s:Shared}{y x:V}{u:Value}{Q:Value->Shared->Prop}
abbrev TO:=St->Hp->(Option Int->Hp->Prop)->Prop
def PO (X:Cx)(e:Option Expr)(t:TO):Prop:=
 ∀(pins:List (Addr×Obj)) (s:Shared) (σ:St) (H:Hp) (Q:Option Int->Hp->Prop),Inv X pins σ H s->t σ H Q ->
  wpAny (model X.prog X.w) X.A (evalPart e X.env) (λu s'=>∃ o H',Inv X pins σ H' s'/\IsPart u o/\Q o H') X.xe s
def Yc:TO:=λ_ H Q=>Q none H
def aA7 (t:TE):TO:=fun σ H Q=>t σ H λx H1=>∃ i,x = .int i/\Q (some i) H1
section
variable {e:Expr}{te:TE}{lo hi:Option Expr}{tl th:TO}{p2:Pos}
def Dd:PO X none Yc:=by intro pins s σ H Q I h;rw[evalPart_none];exact A07 ⟨none,H,I,.none,h⟩
def Bk (h:PE X e te):PO X (some e) (aA7 te):=by intro pins s σ H Q I hw;rw[evalPart_some];refine thn (h pins s σ H _ I hw) λu Y ⟨x,H1,F,U,O⟩=>?_;obtain⟨i,rfl,q⟩:=O;obtain⟨t,rfl⟩:=U;exact⟨some i,H1,F,.int i t,q⟩
def SlR (X:Cx)(r:V->Option Int->Option Int->Hp->VK->Prop):Prop:=
 ∀(pins:List (Addr×Obj)) (s:Shared) (σ:St) (H:Hp) (x:V) (v vl vu:Value) (lo hi:Option Int) (sl:Addr) (Q:VK),Inv X pins σ H s->RelV x v->s.heap.IsSliceOf sl vl vu .none->IsPart vl lo->IsPart vu hi->r x lo hi H Q ->
  ∃ T id,typeLookup (.type T) "__getitem__" = pure (some (.builtin id))/\s.TypeIs v T/\wpAny (model X.prog X.w) X.A (getItem v (.ref sl)) (EP X pins σ Q) X.xe s
def SlR.or {r U:V->Option Int->Option Int->Hp->VK->Prop}(h:SlR X r)(h':SlR X U):SlR X (λx lo hi H Q=>r x lo hi H Q\/U x lo hi H Q):=by
 intro pins s σ H x v vl vu lo hi Z Q I Y hs F O q;rcases q with q|q
 . exact h pins s σ H x v vl vu lo hi Z Q I Y hs F O q
 exact h' pins s σ H x v vl vu lo hi Z Q I Y hs F O q
def tSl (r:V->Option Int->Option Int->Hp->VK->Prop)(te:TE)(tl th:TO):TE:=fun σ H Q=>te σ H λx H1=>tl σ H1 λl H2=>th σ H2 λu F=>r x l u F Q
theorem Bl {r:V->Option Int->Option Int->Hp->VK->Prop}(hr:SlR X r)(he:PE X e te)(hl:PO X lo tl)(hu:PO X hi th):PE X (.Subscript e (.Slice lo hi none p2) pos) (tSl r te tl th):=by
 intro pins s σ H Q I h;refine Subscript_ (thn (he pins s σ H _ I h) λv s1 ⟨x,H1,Z,r1,q1⟩=>?_);refine wpAny_Slice (thn (hl pins s1 σ H1 _ Z q1) λO s2 ⟨l,H2,I2,pl,q2⟩=>thn (hu pins s2 σ H2 _ I2 q2) λU F ⟨u,Y,I3,pu,q3⟩=>?_);rw[evalPart_none];refine A07 ?_;have I4:Inv X pins σ Y {F with heap:=F.heap.push {cls:=.type "slice",data:=.fields #[O,U,.none]}}:=I3.kept (t':=F.toks) λb ob q=>A04 _ q
 obtain⟨T,id,hT,ht,hg⟩:=hr pins {F with heap:=F.heap.push {cls:=.type "slice",data:=.fields #[O,U,.none]}} σ Y x v O U l u F.heap.objs.size Q I4 r1 (Heap.IsSliceOf.new ..) pl pu q3
 show wpAny (model X.prog X.w) X.A (subscriptTail e (.Slice lo hi none p2) v (.ref F.heap.objs.size)) (EP X pins σ Q) X.xe {F with heap:=F.heap.push {cls:=.type "slice",data:=.fields #[O,U,.none]}}
 exact tail_any (ops:=[.ref F.heap.objs.size,v]) ht hT hg ⋯
def So (xs:List V)(lo hi:Option Int):List V:=(xs.drop (HT.sIx xs.length 0 lo)).take (HT.sIx xs.length xs.length hi-HT.sIx xs.length 0 lo)
def Mu (xs:List V)(lo hi:Option Int):(So xs lo hi).length<=xs.length:=by unfold So;rw[A0S,A1N];omega
def aH5 (K:W.Frag):V->Option Int->Option Int->Hp->VK->Prop:=λx lo hi H Q=>∃ a xs,x = .ref a/\SqT K H a xs /\
 ¬ (HT.sIx xs.length 0 lo=0/\HT.sIx xs.length xs.length hi=xs.length)/\∀ p,H p=none->Q (.ref p) (upd H p (.tup (So xs lo hi)))
theorem sl_tup:SlR X (aH5 X.K):=by
 intro pins s σ H x v vl vu lo hi sl Q I rx hs Z pu h;obtain⟨a,xs,rfl,U,hw,q⟩:=h
 cases rx;obtain⟨Y,r,O,hz⟩:=I.tuple U;have F:Y.toArray.size=xs.length:=by rw[A0E];exact r.length.symm
 refine⟨"tuple",_,PyProof.Rows.slot_tuple_getitem.lookup,O.typeIs,?_⟩;refine HT.getItem_tuple_cut O hs Z pu (by rw[F];exact hw) ?_ (by rw[F];exact hz);rw[F];refine⟨.ref s.heap.objs.size,_,I.laid (t':=s.toks) (o:=.tup (So xs lo hi)) (λb ob q=>A04 _ q) (A0B _) ?_,rfl,q _ (I.hok.fresh (A0B _))⟩;exact⟨A0M (Mu xs lo hi) hz,_,(r.drop (HT.sIx xs.length 0 lo)).take (HT.sIx xs.length xs.length hi-HT.sIx xs.length 0 lo),IsTupN.new _ _⟩
def av2 (K:W.Frag):R2:=λx y H Q=>∃ a b xs ys,x = .ref a/\y = .ref b/\SqT K H a xs/\SqT K H b ys/\xs≠[]/\xs.length+ys.length<=sizeLine /\
 (ys=[]->Q (.ref a) H)/\(ys≠[]->∀ p,H p=none->Q (.ref p) (upd H p (.tup (xs++ys))))
def Vals.nil_iff {xs:List V}(r:Vals xs us):us=[]↔xs=[]:=by
 cases r with
 |nil=>simp
 |cons _ _=>simp
def op_catT:OpR X (binaryOp .Add) (av2 X.K):=by
 intro pins s σ H x y v u Q I rx ry h;obtain⟨a,b,xs,ys,rfl,rfl,ha,U,Y,hz,Z,q2⟩:=h
 cases rx
 cases ry;obtain⟨a0,O,p1,_⟩:=I.tuple ha;obtain⟨a1,F,p2,_⟩:=I.tuple U;refine HT.cat_tup p1 p2 (λz=>Y (O.nil_iff.mp z)) (λz=>⟨.ref a,H,I,rfl,Z (F.nil_iff.mp z)⟩) (λz=>?_) (by rw[<- O.length,<- F.length];exact hz);refine⟨.ref s.heap.objs.size,_,I.laid (t':=s.toks) (o:=.tup (xs++ys)) (λb ob q=>A04 _ q) (A0B _) ?_,rfl,q2 (λw=>z (F.nil_iff.mpr w)) _ (I.hok.fresh (A0B _))⟩;exact⟨by rw[A08];exact hz,_,O.append F,IsTupN.new _ _⟩
end
def ixN (n:Nat)(i:Int):Option Nat:=if 0<=i then(if i<n then some i.toNat else none) else if -(n:Int)<=i then some (i+n).toNat else none
def atI {α:Type}(xs:List α)(i:Int):Option α:=(ixN xs.length i).bind λj=>xs[j]?
def an5 {n:Nat}{i:Int}{j:Nat}(h:ixN n i=some j):seqIndex? i n=some j/\j<n /\ -(n:Int)<=i/\i<n:=by
 unfold ixN at h
 by_cases F:0<=i
 . rw[A0K F] at h
   by_cases h1:i<n
   . rw[A0K h1] at h;have e:i.toNat=j:=A10 h;exact⟨by rw[seqIndex_of F h1,e],by omega,by omega,h1⟩
   rw[A0J h1] at h;cases h
 rw[A0J F] at h
 by_cases h1:-(n:Int)<=i
 . rw[A0K h1] at h;have e:(i+n).toNat=j:=A10 h;exact⟨by rw[seqIndex_neg (by omega) h1,e],by omega,h1,by omega⟩
 rw[A0J h1] at h;cases h
def Pu {α:Type} {xs:List α} {i:Int} {v:α} (h:atI xs i=some v):∃ j,seqIndex? i xs.length=some j/\xs[j]? = some v/\j<xs.length /\ -(xs.length:Int)<=i/\i<xs.length:=by
 unfold atI at h
 cases e:ixN xs.length i with
 |none=>rw[e] at h;cases h
 |some j=>rw[e] at h;obtain⟨h1,h2,F,O⟩:=an5 e;exact⟨j,h1,h,h2,F,O⟩
def Ag {α:Type}{xs:List α}{j:Nat}{v:α}(h:xs[j]? = some v):atI xs (j:Int)=some v:=by
 have F:j<xs.length:=(A03.mp h).1
 have e:ixN xs.length (j:Int)=some j:=by unfold ixN;rw[if_pos (by omega),if_pos (by omega)];simp
 unfold atI;rw[e];exact h
def ai8 (b:Expr):Prop:=∀ o i,subscripted b false o i=operate [o,i] (getItem o i)
def IxR (X:Cx)(r:R2):Prop:=
 ∀(value F:Expr) (pins:List (Addr×Obj)) (s:Shared) (σ:St) (H:Hp) (x y:V) (v u:Value) (Q:VK),Inv X pins σ H s->RelV x v->RelV y u->r x y H Q ->
  subscripted F false v u=operate [v,u] (getItem v u)->wpAny (model X.prog X.w) X.A (subscriptTail value F v u) (EP X pins σ Q) X.xe s
def MtR (X:Cx)(id:String)(r:V->List V->Hp->VK->Prop):Prop:=
 ∀(pins:List (Addr×Obj)) (s:Shared) (σ:St) (H:Hp) (x:V) (xs:List V) (v:Value) (us:List Value) (Q:VK),Inv X pins σ H s->RelV x v->Vals xs us->r x xs H Q ->
  wpAny (model X.prog X.w) X.A (call (.builtin id) (v :: us)) (EP X pins σ Q) X.xe s
section
variable {a b:Expr}{ta tb:TE}
def IxR.or {r F:R2}(h:IxR X r)(h':IxR X F):IxR X (λx y H Q=>r x y H Q\/F x y H Q):=by
 intro value Y pins s σ H x y v u Q I O U q hs;rcases q with q|q
 . exact h value Y pins s σ H x y v u Q I O U q hs
 exact h' value Y pins s σ H x y v u Q I O U q hs
def A9 {r:R2}(U:IxR X r)(ha:PE X a ta)(O:PE X b tb)(hs:ai8 b):PE X (.Subscript a b pos) (tOp r ta tb):=by intro pins s σ H Q I h;exact Subscript_ (aE6 ha O I h λv u s2 x y H2 F Y Z q=>U a b pins s2 σ H2 x y v u Q F Y Z q (hs _ _))
def aG3 (K:W.Frag):R2:=λx y H Q=>∃ p xs i v,x = .ref p/\y = .int i/\SqL K H p xs/\atI xs i=some v/\Q v H
def aI4 (K:W.Frag):R2:=λx y H Q=>∃ p xs i v,x = .ref p/\y = .int i/\SqT K H p xs/\atI xs i=some v/\Q v H
def aF7:R2:=λx y H Q=>∃ z i c,x = .str z/\y = .int i/\z.length<=sizeLine/\atI z.cps.toList i=some c/\Q (.str ⟨#[c]⟩) H
theorem ix_list:IxR X (aG3 X.K):=by
 intro value a2 pins s σ H x y v u Q I rx ry h hs;obtain⟨p,xs,i,z,rfl,rfl,hq,he,q⟩:=h
 cases rx;obtain⟨t,rfl⟩:=ry;obtain⟨a0,r,O,hz⟩:=I.list hq;obtain⟨j,h1,h2,h3,h4,h5⟩:=Pu he;obtain⟨w,U,a1⟩:=r.get h2;have hl:=r.length;have hn:=Uu;have Y:EP X pins σ Q w s:=⟨z,H,I,a1,q⟩
 by_cases Z:0<=i
 . have F:i.toNat=j:=by rw[seqIndex_of Z h5] at h1;exact A10 h1
   exact item_listR O.isList Z (by omega) (by rw[F];simpa using U) Y hs
 have F:(i+(a0.toArray.size:Int)).toNat=j:=by rw[seqIndex_neg (by omega) h4] at h1;rw[A0E,<- hl];exact A10 h1
 exact subscriptTail_builtinR (x:=w) O.isList.typeIs slot_list_getitem.lookup
  (wpAny_getItem_list_neg (Q:=λr s'=>r=w/\EP X pins σ Q r s') O.isList (by omega) (by rw[List.size_toArray]<;>omega) (by omega) (by rw[F];simpa using U) ⟨rfl,Y⟩) hs
def ix_tup:IxR X (aI4 X.K):=by
 intro value a2 pins s σ H x y v u Q I rx ry h hs;obtain⟨p,xs,i,z,rfl,rfl,Z,Y,q⟩:=h
 cases rx;obtain⟨t,rfl⟩:=ry;obtain⟨a1,r,F,hz⟩:=I.tuple Z;obtain⟨j,h1,h2,h3,h4,h5⟩:=Pu Y;obtain⟨w,O,a0⟩:=r.get h2;have hl:=r.length;have hn:=Uu;have U:EP X pins σ Q w s:=⟨z,H,I,a0,q⟩
 exact subscriptTail_builtinR (x:=w) F.typeIs slot_tuple_getitem.lookup
  (getItem_tuple (j:=j) (Q:=λr s'=>r=w/\EP X pins σ Q r s') F (by omega) (by omega) (by rw[List.size_toArray,<- hl];exact h1) (by simpa using O) ⟨rfl,U⟩) hs
def ay7:IxR X aF7:=by
 intro value a0 pins s σ H x y v u Q I rx ry h hs;obtain⟨z,i,c,rfl,rfl,hz,Z,q⟩:=h;obtain⟨t,rfl⟩:=rx;obtain⟨t',rfl⟩:=ry;obtain⟨j,h1,h2,h3,U,Y⟩:=Pu Z;have hl:z.cps.toList.length=z.length:=by simp[Str.length]
 rw[hl] at h1 U Y;have hn:=Uu
 exact tail_any (typeIs_str s z t) slot_str_getitem.lookup (getItem_str (c:=c) (by have F:decide (i < -(2 ^ 63:Int))=false:=A0H (by omega);have O:decide (i>=2 ^ 63)=false:=A0H (by omega);rw[F,O,Bool.or_false]) (by rw[h1];simpa using h2) ⟨.str ⟨#[c]⟩,H,I.tok _,⟨_,rfl⟩,q⟩) hs
def rIx (K:W.Frag):R2:=λx y H Q=>aG3 K x y H Q\/aI4 K x y H Q\/aF7 x y H Q
def ix_seq:IxR X (rIx X.K):=ix_list.or (ix_tup.or ay7)
theorem S4 (lo hi:Option Int) (n:Nat):(sliceBounds lo hi none n).1=((HT.sIx n 0 lo:Nat):Int)/\(sliceBounds lo hi none n).2.1=((HT.sIx n n hi:Nat):Int)/\(sliceBounds lo hi none n).2.2=1:=by
 refine⟨?_,?_,rfl⟩
 . cases lo with
   |none=>simp[sliceBounds,HT.sIx]
   |some i=>
     simp only[sliceBounds,HT.sIx,Option.getD_none,show(1:Int)>0 by decide,if_true]
     by_cases h:i<0
     . simp only[h,if_true]<;>omega
     simp only[h,if_false]<;>omega
 cases hi with
 |none=>simp[sliceBounds,HT.sIx]
 |some i=>
   simp only[sliceBounds,HT.sIx,Option.getD_none,show(1:Int)>0 by decide,if_true]
   by_cases h:i<0
   . simp only[h,if_true]<;>omega
   simp only[h,if_false]<;>omega
def Py (F:List Value)(lo hi:Option Int):slicePick F.toArray lo hi none=((F.drop (HT.sIx F.length 0 lo)).take (HT.sIx F.length F.length hi-HT.sIx F.length 0 lo)).toArray:=by obtain⟨h1,h2,O⟩:=S4 lo hi F.toArray.size;unfold slicePick;rw[h1,h2,O];simp only[sliceRange_one,pick_run,List.size_toArray]<;>rfl
def aH7 (K:W.Frag):V->Option Int->Option Int->Hp->VK->Prop:=λx lo hi H Q=>∃ a xs,x = .ref a/\SqL K H a xs/\∀ p,H p=none->Q (.ref p) (upd H p (.lst (So xs lo hi)))
theorem sl_list:SlR X (aH7 X.K):=by
 intro pins s σ H x v vl vu lo hi sl Q I rx hs Y Z h;obtain⟨a,xs,rfl,U,q⟩:=h
 cases rx;obtain⟨a0,r,F,hz⟩:=I.list U;have O:=r.length;refine⟨"list",_,slot_list_getitem.lookup,F.isList.typeIs,?_⟩;refine wpAny_getItem_list_slice F.isList hs Y Z .none (by simp) ?_ (by rw[List.size_toArray]<;>omega)
 rw[Py,<- O];refine⟨.ref s.heap.objs.size,_,I.laid (t':=s.toks) (o:=.lst (So xs lo hi)) (λb ob q=>A04 _ q) (A0B _) ?_,rfl,q _ (I.hok.fresh (A0B _))⟩;exact⟨A0M (Mu xs lo hi) hz,_,0,(r.drop (HT.sIx xs.length 0 lo)).take (HT.sIx xs.length xs.length hi-HT.sIx xs.length 0 lo),A0F _ rfl⟩
def Ph:V->Bool
 |.non=>true
 |.bl _=>true
 |.int _=>true
 |.str _=>true
 |_=>false
def eqV:V->V->Bool
 |.non,.non=>true
 |.bl a,.bl b=>a==b
 |.bl a,.int b=>(if a then 1 else 0)==b
 |.int a,.bl b=>a==(if b then 1 else 0)
 |.int a,.int b=>a==b
 |.str a,.str b=>a==b
 |_,_=>false
theorem ap0 {A:Around}{v:Value}(U:RelV y u)(F:RelV x v)(Y:Ph y=true)(O:Ph x=true):SeqAt.EqAt A s u v (eqV y x):=by
 cases y with
 |non=>
   cases U
   cases x with
   |non=>cases F;exact SeqAt.EqAt.same _
   |bl b=>cases F;exact SeqAt.EqAt.none_bool b
   |int b=>obtain⟨t,rfl⟩:=F;exact SeqAt.EqAt.none_int b t
   |str b=>obtain⟨t,rfl⟩:=F;exact SeqAt.EqAt.none_str b t
   |_=>exact absurd (show false=true from O) A0C
 |bl a=>
   cases U
   cases x with
   |non=>cases F;exact SeqAt.EqAt.bool_none a
   |bl b=>cases F;exact A4U a b
   |int b=>obtain⟨t,rfl⟩:=F;exact SeqAt.EqAt.bool_int a b t
   |str b=>obtain⟨t,rfl⟩:=F;exact SeqAt.EqAt.bool_str a b t
   |_=>exact absurd (show false=true from O) A0C
 |int a=>
   obtain⟨t',rfl⟩:=U
   cases x with
   |non=>cases F;exact SeqAt.EqAt.int_none a t'
   |bl b=>cases F;exact SeqAt.EqAt.int_bool a t' b
   |int b=>obtain⟨t,rfl⟩:=F;exact SeqAt.EqAt.int_int a t' b t
   |str b=>obtain⟨t,rfl⟩:=F;exact SeqAt.EqAt.int_str a t' b t
   |_=>exact absurd (show false=true from O) A0C
 |str a=>
   obtain⟨t',rfl⟩:=U
   cases x with
   |non=>cases F;exact SeqAt.EqAt.str_none a t'
   |bl b=>cases F;exact SeqAt.EqAt.str_bool a t' b
   |int b=>obtain⟨t,rfl⟩:=F;exact SeqAt.EqAt.str_int a t' b t
   |str b=>obtain⟨t,rfl⟩:=F;exact SeqAt.EqAt.str_str a t' b t
   |_=>exact absurd (show false=true from O) A0C
 |_=>exact absurd (show false=true from Y) A0C
def eqU (x:V)(u:Value):Bool:=match u with
 |.none=>eqV .non x
 |.bool b=>eqV (.bl b) x
 |.int i _=>eqV (.int i) x
 |.str z _=>eqV (.str z) x
 |_=>false
def ac1 (r:RelV y u)(f:Ph y=true):eqU x u=eqV y x:=by
 cases y with
 |non=>cases r;rfl
 |bl b=>cases r;rfl
 |int i=>obtain⟨t,rfl⟩:=r;rfl
 |str z=>obtain⟨t,rfl⟩:=r;rfl
 |_=>exact absurd (show false=true from f) A0C
theorem Mo {x:V}:∀ {xs:List V} {us:List Value},Vals xs us->xs.all Ph=true->us.any (eqU x)=xs.any λy=>eqV y x
 |_,_,.nil,_=>rfl
 |y :: xs,u :: us,.cons r t,f=>by rw[List.all_cons,A0W] at f;rw[A2F,A2F,ac1 r f.1,Mo t f.2]
theorem Ka {A:Around}{s:Shared}{x:V}{v:Value}(O:RelV x v)(F:Ph x=true):∀ {xs:List V} {us:List Value},Vals xs us->xs.all Ph=true->∀ u∈us,SeqAt.EqAt A s u v (eqU x u)
 |_,_,.nil,_=>λu hu=>by cases hu
 |y :: xs,u :: us,.cons r t,f=>λU hu=>by
   rw[List.all_cons,A0W] at f;rcases A0G.mp hu with rfl|hu
   . rw[ac1 r f.1];exact ap0 r O f.1 F
   exact Ka O F t f.2 U hu
def inV (x:V)(xs:List V):Bool:=xs.any λy=>eqV y x
def rIn (K:W.Frag)(F:Bool):R2:=λx y H Q=>∃ p xs,y = .ref p/\(SqL K H p xs\/SqT K H p xs)/\Ph x=true/\xs.all Ph=true/\Q (.bl (if F then !inV x xs else inV x xs)) H
def op_in_seq:OpR X (compareOp .In) (rIn X.K false):=by
 intro pins s σ H x y v u Q I Z ry h;obtain⟨p,xs,rfl,F,Y,fs,q⟩:=h
 cases ry;rcases F with F|F
 . obtain⟨O,r,U,hz⟩:=I.list F;refine SeqAt.in_listAt (eqU x) U.isList (λw hw=>Ka Z Y r fs w (by simpa using hw)) ⟨.bl _,H,I,rfl,?_⟩;rw[show O.toArray.any (eqU x)=O.any (eqU x) by simp,Mo r fs];exact q
 obtain⟨O,r,U,hz⟩:=I.tuple F;refine SeqAt.in_tupleAt (eqU x) U (λw hw=>Ka Z Y r fs w (by simpa using hw)) ⟨.bl _,H,I,rfl,?_⟩;rw[show O.toArray.any (eqU x)=O.any (eqU x) by simp,Mo r fs];exact q
def op_notIn_seq:OpR X (compareOp .NotIn) (rIn X.K true):=by
 intro pins s σ H x y v u Q I Z ry h;obtain⟨p,xs,rfl,F,Y,fs,q⟩:=h
 cases ry;rcases F with F|F
 . obtain⟨O,r,U,hz⟩:=I.list F;refine SeqAt.notIn_listAt (eqU x) U.isList (λw hw=>Ka Z Y r fs w (by simpa using hw)) ⟨.bl _,H,I,rfl,?_⟩;rw[show O.toArray.any (eqU x)=O.any (eqU x) by simp,Mo r fs];exact q
 obtain⟨O,r,U,hz⟩:=I.tuple F;refine SeqAt.notIn_tupleAt (eqU x) U (λw hw=>Ka Z Y r fs w (by simpa using hw)) ⟨.bl _,H,I,rfl,?_⟩;rw[show O.toArray.any (eqU x)=O.any (eqU x) by simp,Mo r fs];exact q
def op_notIn_str:OpR X (compareOp .NotIn) (λx y H Q=>∃ i j,x = .str i/\y = .str j/\Q (.bl (!(!(Builtin.Str.occurrences j i 0 j.length 1).isEmpty))) H):=by intro pins s σ H x y v u Q I F O h;obtain⟨i,j,rfl,rfl,q⟩:=h;obtain⟨t,rfl⟩:=F;obtain⟨t',rfl⟩:=O;exact notIn_str ⟨.bl _,H,I,rfl,q⟩
def CallR.or {f:Value}{r F:List V->Hp->VK->Prop}(h:CallR X f r)(h':CallR X f F):CallR X f (λxs H Q=>r xs H Q\/F xs H Q):=by
 intro pins s σ H xs us Q I rs q;rcases q with q|q
 . exact h pins s σ H xs us Q I rs q
 exact h' pins s σ H xs us Q I rs q
theorem Sa:CallR X (.type "list") (λxs H Q=>∃ p ys,xs=[.ref p]/\(SqL X.K H p ys\/SqT X.K H p ys)/\∀ l,H l=none->Q (.ref l) (upd H l (.lst ys))):=by
 intro pins s σ H xs us Q I r h;obtain⟨p,ys,rfl,Y,q⟩:=h;obtain⟨u,rfl,rx⟩:=Jq r
 cases rx
 have a0:∀(F:List Value),Vals ys F->ys.length<=sizeLine->∀(h':Heap) (O:Nat),(∀ b o',s.heap.get? b=some o'->h'.get? b=some o') ->
  h'.get? s.heap.objs.size=some {cls:=.type "list",dict:=none,data:=.seq F.toArray O,slots:=#[]}->EP X pins σ Q (.ref s.heap.objs.size) {s with heap:=h'}:=λF U hz h' O kp e=>
  ⟨.ref s.heap.objs.size,_,I.laid (t':=s.toks) kp (A0B _) (show ObjOk X.prog X.w _ h' _ (.lst ys) from⟨hz,F,O,U,e⟩),rfl,q _ (I.hok.fresh (A0B _))⟩
 rcases Y with Y|Y
 . obtain⟨F,U,pl,hz⟩:=I.list Y;have a1:=U.length;obtain⟨o,ho,Z,n,hd⟩:=pl.isList;exact call_list_seq p (.inl rfl) ho Z hd (λh' O kp e=>a0 F U hz h' O kp e) (by simp only[List.size_toArray]<;>omega)
 obtain⟨F,U,pl,hz⟩:=I.tuple Y;have a1:=U.length;obtain⟨o,ho,Z,n,hd⟩:=pl;exact call_list_seq p (.inr rfl) ho Z hd (λh' O kp e=>a0 F U hz h' O kp e) (by simp only[List.size_toArray]<;>omega)
theorem Pf:CallR X (.type "tuple") (λxs H Q=>∃ p ys,xs=[.ref p]/\((SqL X.K H p ys/\∀ l,H l=none->Q (.ref l) (upd H l (.tup ys)))\/(SqT X.K H p ys/\Q (.ref p) H))):=by
 intro pins s σ H xs us Q I r h;obtain⟨p,ys,rfl,h⟩:=h;obtain⟨u,rfl,rx⟩:=Jq r
 cases rx;rcases h with ⟨F,q⟩|⟨F,q⟩
 . obtain⟨O,Y,U,hz⟩:=I.list F;have a0:=Y.length;refine call_tuple_list U.isList (λh' kp=>?_) (by simp only[List.size_toArray]<;>omega)
   have Z:Inv X pins σ H {s with heap:=h'}:=I.kept (t':=s.toks) kp
   have I2:Inv X pins σ (upd H h'.objs.size (.tup ys)) {s with heap:=h'.push {cls:=.type "tuple",data:=.seq O.toArray}}:=
    Z.laid (t':=s.toks) (λb o e=>A04 _ e) (A0B _) (show ObjOk X.prog X.w _ _ _ (.tup ys) from⟨hz,O,Y,IsTupN.new _ _⟩)
   exact⟨.ref h'.objs.size,_,I2,rfl,q _ (Z.hok.fresh (A0B _))⟩
 obtain⟨O,Y,U,hz⟩:=I.tuple F;exact call_tuple_same U ⟨.ref p,H,I,rfl,q⟩
def tyV (K:W.Frag)(T:String)(x:V)(H:Hp):Prop:=match x with
 |.str _=>T = "str"
 |.int _=>T = "int"
 |.ref p=>(T = "list" /\ ∃ xs,SqL K H p xs)\/(T = "tuple" /\ ∃ o,K.lookup p=some o/\o.cls = .type "tuple" /\ o.dict=none) \/
  (T = "dict" /\ ((∃ kvs,H p=some (.dK kvs))\/∃ kvs,H p=some (.dT kvs)))\/(T = "set" /\ ∃ S n,H p=some (.set S n))
 |_=>False
theorem ac7 {σ:St}{T:String}{v:Value}(I:Inv X pins σ H s)(r:RelV x v)(ty:tyV X.K T x H) :
 s.TypeIs v T/\∀ a,v = .ref a->∃ U,s.heap.get? a=some U/\U.dict=none:=by
 cases x with
 |str z=>
   obtain⟨t,rfl⟩:=r
   cases (show T = "str" from ty);exact⟨typeIs_str s z t,λ_ e=>nomatch e⟩
 |int i=>
   obtain⟨t,rfl⟩:=r
   cases (show T = "int" from ty);exact⟨typeIs_int s i t,λ_ e=>nomatch e⟩
 |ref p=>
   cases r;rcases ty with ⟨rfl,xs,hq⟩|⟨rfl,o,F,Z,hd⟩|⟨rfl,F⟩|⟨rfl,S,n,F⟩
   . obtain⟨a0,_,Y,_⟩:=I.list hq;refine⟨Y.isList.typeIs,λa e=>?_⟩
     cases e;obtain⟨o,n,e,c,hd,_⟩:=Y;exact⟨o,e,hd⟩
   . refine⟨⟨o,I.kIn p o F,Z⟩,λa e=>?_⟩
     cases e;exact⟨o,I.kIn _ o F,hd⟩
   . have z:∃ o,s.heap.get? p=some o/\o.ExactDict:=by
      rcases F with ⟨kvs,F⟩|⟨kvs,F⟩
      . obtain⟨_,_,_,_,o,_,_,e,ex,_⟩:=I.hok p _ F;exact⟨o,e,ex⟩
      obtain⟨_,_,_,_,o,_,_,e,ex,_⟩:=I.hok p _ F;exact⟨o,e,ex⟩
     obtain⟨o,e,ex⟩:=z;refine⟨⟨o,e,ex.1⟩,λa O=>?_⟩
     cases O;exact⟨o,e,ex.2.1⟩
   obtain⟨o,_,_,_,e,ex,_⟩:=I.hok p _ F;refine⟨⟨o,e,ex.1⟩,λa O=>?_⟩
   cases O;exact⟨o,e,ex.2.1⟩
 |_=>exact False.elim ty
def aC7 (K:W.Frag)(T:String)(r:V->List V->Hp->VK->Prop)(to:TE):TE:=fun σ H Q=>to σ H λx H1=>tyV K T x H1/\r x [] H1 Q
def tBM (K:W.Frag)(T:String)(r:V->List V->Hp->VK->Prop)(to:TE)(t:TA):TE:=fun σ H Q=>to σ H λx H1=>tyV K T x H1/\t σ H1 λxs H2=>r x xs H2 Q
variable {o e:Expr}{es:List Expr}{to:TE}{t:TA}{name:Str}{apos cpos:Pos}{T id:String}{r:V->List V->Hp->VK->Prop}
def az1 (pa:PlainAttrs T)(slot:Slot T name id)(a0:typeOf (.builtin id)=pure (.type "method_descriptor"))(hm:MtR X id r)(Z:PE X o to)
 (U:attributeBase o name X.env (eval o X.env)=eval o X.env:=by ac_nf) (Y:(apos.endLine==cpos.line)=true:=by ac_nf):PE X (.Call (.Attribute o name apos) [] [] cpos) (aC7 X.K T r to):=by
 intro pins s σ H Q I h;refine wpAny_Call_method0_late U Y (thn (Z pins s σ H _ I h) λv s1 ⟨x,H1,F,O,ty,q1⟩=>?_);obtain⟨h1,h2⟩:=ac7 F O ty;exact⟨T,id,pa,slot,a0,h1,h2,A4I rfl (PySem.evalArgs_none (hm pins s1 σ H1 x [] v [] Q F O .nil q1))⟩
theorem aD0 (pa:PlainAttrs T)(slot:Slot T name id)(a3:typeOf (.builtin id)=pure (.type "method_descriptor"))(hm:MtR X id r)(ho:PE X o to)(ha:PA X (e :: es) t)
 (Z:attributeBase o name X.env (eval o X.env)=eval o X.env:=by ac_nf)
 (a0:((backTo cpos (starEach (e :: es) X.env)).all (λx=>!x.1)&&(backToKw cpos (keywordEach [] X.env)).all (λx=>x.1.isSome)
  && decide ((e :: es).length+([]:List Keyword).length+(if([]:List Keyword).isEmpty then 0 else 1)<30))=true:=by ac_nf)
 (a1:(apos.endLine==cpos.line)=true:=by ac_nf) (hs:starEach (e :: es) X.env=(false,eval e X.env) :: starEach es X.env:=by ac_nf) (a2:(backTo cpos (starEach es X.env)).any (·.1)=false:=by ac_nf) :
 PE X (.Call (.Attribute o name apos) (e :: es) [] cpos) (tBM X.K T r to t):=by
 intro pins s σ H Q I h;refine wpAny_Call_method_late Z a0 a1 rfl (thn (ho pins s σ H _ I h) λv s1 ⟨x,H1,F,U,ty,q1⟩=>?_);obtain⟨h1,h2⟩:=ac7 F U ty;refine⟨T,id,pa,slot,a3,h1,h2,?_⟩;have O:=ha cpos pins s1 σ H1 _ F q1;rw[hs] at O ⊢;refine A4I (by show(false||(backTo cpos (starEach es X.env)).any (·.1))=false;rw[a2]<;>rfl) (Calls.evalArgs_plain ?_)
 exact thn O λus s2 ⟨vs,H2,Y,r2,q2⟩=>hm pins s2 σ H2 x vs v us Q Y U r2 q2
/- xs.append(e),list.index on a module's tuple .. are MtR facts of 06m -/
end
def MtM (X:Cx)(id:String)(r:V->List V->Hp->VK->Prop):Prop:=
 ∀(pins:List (Addr×Obj)) (s:Shared) (σ:St) (H:Hp) (x:V) (xs:List V) (v:Value) (us:List Value) (Q:VK),Inv X pins σ H s->RelV x v->Vals xs us->r x xs H Q ->
  wpAny (model X.prog X.w) X.A (call (.builtin id) (v :: us)) (EP X pins σ Q) X.xe s
def Vals.one (h:Vals [x] us):∃ u,us=[u]/\RelV x u:=by
 cases h with
 |cons r q=>cases q;exact⟨_,rfl,r⟩
def Vals.two (h:Vals [x,y] us):∃ u v,us=[u,v]/\RelV x u/\RelV y v:=by
 cases h with
 |cons r q=>obtain⟨u,rfl,F⟩:=Vals.one q;exact⟨_,_,rfl,r,F⟩
def Vals.zero:∀ {us:List Value},Vals [] us->us=[]
 |_,.nil=>rfl
theorem Vals.eraseIdx:∀ {xs:List V} {us:List Value} (i:Nat),Vals xs us->Vals (xs.eraseIdx i) (us.eraseIdx i)
 |_,_,_,.nil=>.nil
 |_,_,0,.cons _ t=>t
 |_,_,i+1,.cons r t=>.cons r (Vals.eraseIdx i t)
theorem Vals.reverse {xs:List V}(h:Vals xs us):Vals xs.reverse us.reverse:=by
 induction h with
 |nil=>exact .nil
 |cons r t ih=>rw[List.reverse_cons,List.reverse_cons];exact Vals.append ih (.cons r .nil)
theorem Vals.rep {xs:List V}{us:List Value}(h:Vals xs us):∀ k:Nat,Vals (List.replicate k xs).flatten (List.replicate k us).flatten
 |0=>.nil
 |k+1=>by rw[A2Q,A2Q,A4A,A4A];exact Vals.append h (Vals.rep h k)
theorem Rq {α:Type}:∀(l:List α) (i:Nat),(l.eraseIdx i).length<=l.length
 | [],_=>A0B _
 |_ :: _,0=>A39 _
 |_ :: r,i+1=>Nat.succ_le_succ (Rq r i)
theorem Ri (F:List Value):∀(k:Nat) (acc:List Value),
 List.foldl (λU Y=>U++Y) acc.toArray (List.replicate k F.toArray)=(acc++(List.replicate k F).flatten).toArray
 |0,acc=>by simp
 |k+1,acc=>by
   have e:acc.toArray++F.toArray=(acc++F).toArray:=by simp
   have O:(acc++F)++(List.replicate k F).flatten=acc++(List.replicate (k+1) F).flatten:=by rw[A2Q,A4A,A2K]
   rw[<- O,<- Ri F k (acc++F),<- e,A2Q,A4N]
section
variable {σ:St}{l b:Addr}{xs ys zs:List V}
def Inv.lset {F its':List Value}{n:Nat}{f:Array Value->Array Value}(I:Inv X pins σ H s)(O:H l=some (.lst xs))
 (e:s.heap.get? l=some {cls:=.type "list",data:=.seq F.toArray n}) (hf:f F.toArray=its'.toArray) (Y:Vals ys its') (hz:ys.length<=sizeLine) :
 Inv X pins σ (upd H l (.lst ys)) {s with heap:=s.heap.update l (Obj.mapSeq f),toks:=t'}:=by
 have q:=PySem.IsL.update e f;rw[hf] at q;refine I.write (x:=l) (e:=l) (by rw[O];exact trivial) (.inl rfl) (λZ u U hu=>(A20 s.heap (Obj.mapSeq f) (Ne.symm U)).trans hu) ⟨_,q⟩ ?_;exact⟨hz,its',_,Y,q⟩
def Inv.lnew {F:List Value}(I:Inv X pins σ H s)(O:Vals ys F)(hz:ys.length<=sizeLine) :
 Inv X pins σ (upd H s.heap.objs.size (.lst ys)) {s with heap:=s.heap.push {cls:=.type "list",data:=.seq F.toArray},toks:=t'}:=
 I.laid (λ_ _ q=>A04 _ q) (A0B _) ⟨hz,F,0,O,A0F _ rfl⟩
theorem Inv.fresh (I:Inv X pins σ H s):H s.heap.objs.size=none:=I.hok.fresh (A0B _)
def Inv.lstM (I:Inv X pins σ H s)(O:H l=some (.lst xs)):xs.length<=sizeLine/\∃(F:List Value) (n:Nat),Vals xs F/\xs.length=F.length/\s.heap.get? l=some {cls:=.type "list",data:=.seq F.toArray n}:=by obtain⟨z,F,n,r,e⟩:=I.hok l _ O;exact⟨z,F,n,r,r.length,e⟩
def P9 {n:Nat}(h:n<=sizeLine):Builtin.List.listTooLong n=false:=by unfold Builtin.List.listTooLong;exact A0H (by omega)
end
def a05:V->List V->Hp->VK->Prop:=λx vs H Q=>∃ l xs y,x = .ref l/\vs=[y]/\H l=some (.lst xs)/\xs.length<sizeLine/\Q .non (upd H l (.lst (xs++[y])))
def G3:MtM X "list.append" a05:=by
 intro pins s σ H x vs v us Q I Z Y h;obtain⟨l,xs,y,rfl,rfl,O,hz,q⟩:=h
 cases Z;obtain⟨u,rfl,ru⟩:=Y.one;obtain⟨z,U,n,r,hl,e⟩:=I.lstM O;refine A3M F.slot_list_append ⟨_,e,rfl⟩ F.entry_list_append (F.args_list_append_2 _ _) (PySem.list_append l U.toArray n u (by rw[A0E];omega)) ⟨e,?_⟩;refine⟨.non,_,I.lset (its':=U++[u]) O e (by simp) (r.append (.cons ru .nil)) ?_,rfl,q⟩;rw[A08,A1C];omega
def Ss:V->List V->Hp->VK->Prop:=λx vs H Q=>∃ l b xs zs,x = .ref l/\vs=[.ref b]/\H l=some (.lst xs)/\H b=some (.lst zs)/\xs.length+zs.length<=sizeLine/\Q .non (upd H l (.lst (xs++zs)))
theorem Nj:MtM X "list.extend" Ss:=by
 intro pins s σ H x vs v us Q I rx rv h;obtain⟨l,b,xs,zs,rfl,rfl,Y,hB,hz,q⟩:=h
 cases rx;obtain⟨u,rfl,ru⟩:=rv.one
 cases ru;obtain⟨z,O,n,r,hl,e⟩:=I.lstM Y;obtain⟨z2,U,n2,r2,a1,Z⟩:=I.lstM hB;have hsz:O.toArray.size+U.toArray.size<=sizeLine:=by rw[A0E,A0E];omega
 have a0:¬ (!O.toArray.isEmpty&&Builtin.List.listTooLong (O.toArray.size+U.toArray.size))=true:=by rw[P9 hsz,A50];exact A0C
 refine A3M F.slot_list_extend ⟨_,e,rfl⟩ F.entry_list_extend (F.args_list_extend_2 _ _)
  (AutoSeq1.list_extend_list_list_0 l O.toArray n b U.toArray n2 a0 (by rw[A0E];omega) (by omega)) ⟨e,Z,?_⟩
 refine⟨.non,_,I.lset (its':=O++U) Y e (by simp) (r.append r2) ?_,rfl,q⟩;rw[A08];omega
def aa0:V->List V->Hp->VK->Prop:=λx vs H Q=>∃ l xs i k y,x = .ref l/\vs=[.int i]/\H l=some (.lst xs) /\ -(2 ^ 63)<=i/\i<2 ^ 63/\seqIndex? i xs.length=some k/\xs[k]? = some y/\Q y (upd H l (.lst (xs.eraseIdx k)))
theorem a18:MtM X "list.pop" aa0:=by
 intro pins s σ H x vs v us Q I rx rv h;obtain⟨l,xs,i,k,y,rfl,rfl,U,h1,h2,Y,Z,q⟩:=h
 cases rx;obtain⟨u,rfl,ru⟩:=rv.one;obtain⟨t,rfl⟩:=ru;obtain⟨z,O,n,r,hl,e⟩:=I.lstM U;obtain⟨w,hw,a0⟩:=r.get Z
 refine A3M F.slot_list_pop ⟨_,e,rfl⟩ F.entry_list_pop (F.args_list_pop_2 _ _)
  (MeetsSeq.list_pop_at l O.toArray n i t k w (fitsIndex_both h1 h2) (by rw[A0E,<- hl];exact Y) (by rw[<- A3P];exact hw) (by rw[A0E];omega)) ⟨e,?_⟩
 refine⟨y,_,I.lset (its':=O.eraseIdx k) U e ?_ (r.eraseIdx k) ?_,a0,q⟩
 . show O.toArray.eraseIdxIfInBounds k=(O.eraseIdx k).toArray;rw[List.eraseIdxIfInBounds_toArray]
 have:=Rq xs k;omega
def U6:V->List V->Hp->VK->Prop:=λx vs H Q=>∃ l xs,x = .ref l/\vs=[]/\H l=some (.lst xs)/\Q .non (upd H l (.lst xs.reverse))
def W2:MtM X "list.reverse" U6:=by
 intro pins s σ H x vs v us Q I rx Z h;obtain⟨l,xs,rfl,rfl,O,q⟩:=h
 cases rx;have Y:=Z.zero;subst Y;obtain⟨z,U,n,r,hl,e⟩:=I.lstM O;refine A3M F.slot_list_reverse ⟨_,e,rfl⟩ F.entry_list_reverse (F.args_list_reverse_1 _) (AutoSeq1.list_reverse_list_0 l U.toArray n (by rw[A0E];omega)) ⟨e,?_⟩;refine⟨.non,_,I.lset (its':=U.reverse) O e (by simp) r.reverse ?_,rfl,q⟩;rw[List.length_reverse];omega
def aH3:R2:=λx y H Q=>∃ l b xs zs,x = .ref l/\y = .ref b/\H l=some (.lst xs)/\H b=some (.lst zs)/\xs.length+zs.length<=sizeLine/\∀ p,H p=none->Q (.ref p) (upd H p (.lst (xs++zs)))
def op_cat:OpR X (binaryOp .Add) aH3:=by
 intro pins s σ H x y v u Q I rx ry h;obtain⟨l,b,xs,zs,rfl,rfl,hH,Z,hz,q⟩:=h
 cases rx
 cases ry;obtain⟨z,F,n,r,hl,e⟩:=I.lstM hH;obtain⟨z2,O,n2,r2,a0,U⟩:=I.lstM Z;refine PySem.P.add_list e U ?_ (by rw[A0E,A0E];omega);have Y:F.toArray++O.toArray=(F++O).toArray:=by simp
 rw[Y];exact⟨.ref _,_,I.lnew (t':=s.toks) (r.append r2) (by rw[A08];omega),rfl,q _ I.fresh⟩
def aF8:R2:=λx y H Q=>∃ l k xs,x = .ref l/\y = .int k/\H l=some (.lst xs) /\ -(2 ^ 63)<=k/\k<2 ^ 63/\xs.length*k.toNat<=sizeLine /\
 ∀ p,H p=none->Q (.ref p) (upd H p (.lst (List.replicate k.toNat xs).flatten))
def ak0 {α:Type}(xs:List α)(k:Nat):(List.replicate k xs).flatten.length=k*xs.length:=by
 induction k with
 |zero=>simp
 |succ k ih=>rw[A2Q,A4A,A08,ih,Nat.succ_mul,Nat.add_comm]
theorem ay2:OpR X (binaryOp .Mult) aF8:=by
 intro pins s σ H x y v u Q I rx ry h;obtain⟨l,k,xs,rfl,rfl,hH,h1,h2,hz,q⟩:=h
 cases rx;obtain⟨t,rfl⟩:=ry;obtain⟨z,O,n,r,hl,e⟩:=I.lstM hH;have a2:O.toArray.size*k.toNat<=sizeLine:=by rw[A0E,<- hl];exact hz
 have a0:¬ O.toArray.size*k.toNat>(2 ^ 63-1) / 8:=by
  have:(sizeLine:Nat)<=(2 ^ 63-1) / 8:=by decide
  omega
 have a1:¬ (!Builtin.List.listFitsIndex k)=true:=by rw[fitsIndex_both h1 h2];exact A0C
 have a3:¬ Builtin.List.listTooLong (O.toArray.size*k.toNat)=true:=by rw[P9 a2];exact A0C
 have a4:List.foldl (λY Z=>Y++Z) #[] (List.replicate (if O.toArray.isEmpty=true then 0 else k.toNat) O.toArray)=(List.replicate k.toNat O).flatten.toArray:=by
  have f0:∀ m:Nat,List.foldl (λY Z=>Y++Z) #[] (List.replicate m O.toArray)=(List.replicate m O).flatten.toArray:=λm=>by have:=Ri O m [];rw[A30] at this;exact this
  rw[f0]
  cases O with
  |nil=>simp
  |cons a r'=>rw[if_neg (by simp)]
 refine wpAny_binaryOp_repeat_ref (T:="list") (U:="int") ∅ ⟨_,e,rfl⟩ (λs'=>typeIs_int s' k t) noFill_list_mul F.fills_int_mul F.slot_int_rmul repeat_list F.slot_int_index.lookup
  (A3M F.slot_int_rmul (typeIs_int s k t) F.entry_int_rmul (F.args_int_rmul_2 _ _) (int___rmul___int_list k t l O.toArray n)
   ⟨e,rfl,⟨_,e,rfl⟩,A3M F.slot_list_mul ⟨_,e,rfl⟩ F.entry_list_mul (F.args_list_mul_2 _ _) (AutoListH.list___mul___list_int_3 l O.toArray n k t a1 a0 a3) ⟨e,?_⟩⟩)
 rw[a4];exact⟨.ref _,_,I.lnew (t':=s.toks) (r.rep k.toNat) (by rw[ak0,Nat.mul_comm];exact hz),rfl,q _ I.fresh⟩
section
variable {prog:Program}{w:World}{A:Around}{E:Value->Shared->Prop}
set_option maxRecDepth 100000 in
end
section
variable {κ:Type}[DecidableEq κ]
def Gq (kvs:List (κ×V))(k:κ):Option V:=(kvs.find? λkv=>decide (kv.1=k)).map (·.2)
def Io (kvs:List (κ×V))(k:κ)(v:V):List (κ×V):=
 if(kvs.any λkv=>decide (kv.1=k))=true then kvs.map (λkv=>if kv.1=k then(kv.1,v) else kv) else kvs++[(k,v)]
def a45 {k:κ}:Gq ([]:List (κ×V)) k=none:=rfl
def Kg {p:κ×V} {r:List (κ×V)} {k:κ} (e:p.1=k):Gq (p :: r) k=some p.2:=by simp[Gq,List.find?_cons,e]
def Kd {p:κ×V}{r:List (κ×V)}{k:κ}(e:¬ p.1=k):Gq (p :: r) k=Gq r k:=by simp[Gq,List.find?_cons,e]
theorem Um (k:κ):∀ kvs:List (κ×V),(kvs.any λkv=>decide (kv.1=k))=(Gq kvs k).isSome
 | []=>rfl
 |p :: r=>by
   rw[A2F]
   by_cases e:p.1=k
   . simp only[Kg e,decide_eq_true e,Bool.true_or,Option.isSome_some]
   rw[Kd e,A0H e,A4F];exact Um k r
def Ja (kvs:List (κ×V))(k:κ)(v:V):(Io kvs k v).length<=kvs.length+1:=by
 unfold Io
 split
 . rw[A01];omega
 rw[A08,A0X,List.length_nil];omega
def RelO.isSome_eq {o:Option V}{u:Option Value}(r:RelO o u):o.isSome=u.isSome:=by
 cases o with
 |none=>cases u with
   |none=>rfl
   |some _=>exact(show False from r).elim
 |some _=>cases u with
   |none=>exact(show False from r).elim
   |some _=>rfl
theorem RelO.getD {o:Option V}{u:Option Value}{d:V}{d':Value}(r:RelO o u)(rd:RelV d d'):RelV (o.getD d) (u.getD d'):=by
 cases o with
 |none=>cases u with
   |none=>exact rd
   |some _=>exact(show False from r).elim
 |some _=>cases u with
   |none=>exact(show False from r).elim
   |some _=>exact r
def KV.val {kvs:List (κ×V)} {vs:List (κ×Value)} (r:KV kvs vs) (k:κ):RelO (Gq kvs k) (valueAt vs k):=by
 unfold KV at r
 induction r with
 |nil=>exact A23
 |@cons p q ps qs h t ih=>
   obtain⟨h1,h2⟩:=h
   by_cases e:p.1=k
   . have F:q.1=k:=h1.symm.trans e;have b:valueAt (q :: qs) k=some q.2:=by simp[valueAt,List.find?_cons,F]
     rw[Kg e,b];exact h2
   have F:¬ q.1=k:=λz=>e (h1.trans z);have b:valueAt (q :: qs) k=valueAt qs k:=by simp[valueAt,List.find?_cons,F]
   rw[Kd e,b];exact ih
theorem KV.any {kvs:List (κ×V)}{vs:List (κ×Value)}(r:KV kvs vs)(k:κ):(kvs.any λkv=>decide (kv.1=k))=vs.any λkv=>decide (kv.1=k):=by
 unfold KV at r
 induction r with
 |nil=>rfl
 |cons h t ih=>rw[A2F,A2F,ih,h.1]
def KV.repl {kvs:List (κ×V)}{vs:List (κ×Value)}(r:KV kvs vs)(k:κ)(F:RelV y u) :
 KV (kvs.map λkv=>if kv.1=k then(kv.1,y) else kv) (vs.map λkv=>if kv.1=k then(kv.1,u) else kv):=by
 unfold KV at r ⊢
 induction r with
 |nil=>exact .nil
 |@cons p q ps qs h t ih=>
   rw[A0P,A0P];refine .cons ?_ ih;obtain⟨h1,h2⟩:=h
   by_cases e:p.1=k
   . rw[A0K e,A0K (h1.symm.trans e)];exact⟨h1,F⟩
   rw[A0J e,A0J (λz=>e (h1.trans z))];exact⟨h1,h2⟩
def KV.put {kvs:List (κ×V)}{vs:List (κ×Value)}(r:KV kvs vs)(k:κ)(F:RelV y u):KV (Io kvs k y) (stored vs k u):=by
 unfold Io stored;rw[r.any k]
 by_cases e:(vs.any λkv=>decide (kv.1=k))=true
 . rw[A0K e,A0K e];exact r.repl k F
 rw[A0J e,A0J e];exact Paired.snoc r ⟨rfl,F⟩
theorem KV.length {kvs:List (κ×V)}{vs:List (κ×Value)}(r:KV kvs vs):kvs.length=vs.length:=A3D r
end
def Ha {w:World}{k:Key}(r:RelV (kV k) u):(Ax P w).is k u=true:=by
 cases k with
 |inl i=>obtain⟨t,e⟩:=(show ∃ t,u=Value.int i t from r);subst e;exact Tr P w i t
 |inr x=>obtain⟨t,e⟩:=(show ∃ t,u=Value.str x t from r);subst e;exact T6 P w x t
theorem Qs {P:Program}{w:World}:∀ {ks:List Key} {us:List Value},Vals (ks.map kV) us->ItemsAre (Ax P w) ks us
 | [],_,r=>by rw[List.map_nil] at r;cases r;exact .nil
 |k :: ks,_,r=>by
   rw[A0P] at r
   cases r with
   |cons h t=>exact .cons (Ha h) (Qs t)
abbrev KT (H:Hp):List (List Key×V)->List (List Key×Addr×Value)->Prop:=Paired λp q=>p.1=q.1/\H q.2.1=some (.tup (p.1.map kV))/\RelV p.2 q.2.2
def KT.val (r:KT H kvs xs)(k:List Key):RelO (Gq kvs k) ((atKey xs k).map (·.2)):=by
 induction r with
 |nil=>exact A23
 |@cons p q ps qs h t ih=>
   obtain⟨h1,_,h2⟩:=h
   by_cases e:p.1=k
   . have F:q.1=k:=h1.symm.trans e;have b:atKey (q :: qs) k=some q.2:=by simp[atKey,List.find?_cons,F]
     rw[Kg e,b];exact h2
   have F:¬ q.1=k:=λz=>e (h1.trans z);have b:atKey (q :: qs) k=atKey qs k:=by simp[atKey,List.find?_cons,F]
   rw[Kd e,b];exact ih
def KT.repl    (r:KT H kvs xs) (k:List Key)   (O:RelV y u) :
 KT H (kvs.map λkv=>if kv.1=k then(kv.1,y) else kv) (xs.map (putAt k u)):=by
 induction r with
 |nil=>exact .nil
 |@cons p q ps qs h t ih=>
   rw[A0P,A0P];refine .cons ?_ ih;obtain⟨h1,h2,F⟩:=h;unfold putAt
   by_cases e:p.1=k
   . rw[A0K e,A0K (h1.symm.trans e)];exact⟨h1,h2,O⟩
   rw[A0J e,A0J (λz=>e (h1.trans z))];exact⟨h1,h2,F⟩
def KT.put (r:KT H kvs xs)(k:List Key){b:Addr}(O:H b=some (.tup (k.map kV)))(F:RelV y u) :
 KT H (Io kvs k y) (storedH xs k b u):=by
 have e:(kvs.any λkv=>decide (kv.1=k))=(atKey xs k).isSome:=by rw[Um,(r.val k).isSome_eq,Option.isSome_map]
 unfold Io storedH;rw[e]
 by_cases q:(atKey xs k).isSome=true
 . rw[A0K q,A0K q];exact r.repl k F
 rw[A0J q,A0J q];exact Paired.snoc r ⟨rfl,O,F⟩
def KT.keeps (r:KT H kvs xs)(F:∀ b ys,H b=some (.tup ys)->H' b=some (.tup ys)):KT H' kvs xs:=
 Paired.mapP r λ_ _ z=>⟨z.1,F _ _ z.2.1,z.2.2⟩
section
variable {w:World}{h:Heap}
def aA4 {u:HO}(ok:HOk P w H h)(e:Rd H a u):ObjOk P w H h a u:=e.ok ok
def Qz {kvs:List (Key×V)}(ok:HOk P w H h)(e:Rd H a (.dK kvs)):kvs.length<=sizeLine/\(a==sysModules)=false/\∃ vs,KV kvs vs/\h.DictOf (Ax P w) a vs:=
 show ObjOk P w H h a (.dK kvs) from aA4 ok e
def Ox {kvs:List (Key×V)}(ok:HOk P w H h)(e:H a=some (.dK kvs)):kvs.length<=sizeLine/\(a==sysModules)=false/\∃ vs,KV kvs vs/\h.DictOf (Ax P w) a vs:=Qz ok (.inl e)
def O9 {ks:List Key}(ok:HOk P w H h)(e:H a=some (.tup (ks.map kV))):(tupleKind (Ax P w)).is h ks a:=by obtain⟨_,O,r,o,h1,h2,⟨n,F⟩,_⟩:=(show ObjOk P w H h a (.tup (ks.map kV)) from ok a _ e);exact⟨o,O.toArray,n,h1,h2,F,by simpa using Qs r⟩
theorem Tx (ok:HOk P w H h)(e:Rd H a (.dT kvs)):kvs.length<=sizeLine/\(a==sysModules)=false /\
 ∃ xs,KT H kvs xs/\h.DictOfH (tupleKind (Ax P w)) a xs:=by
 obtain⟨z,y,xs,r,o,es,O,h1,h2,U,Y,Z⟩:=(show ObjOk P w H h a (.dT kvs) from aA4 ok e);refine⟨z,y,xs,r,o,es,O,h1,h2,U,Y,λx F=>?_,Z⟩
 have all:∀ {l:List (List Key×V)} {m:List (List Key×Addr×Value)},KT H l m->∀ x∈m,(tupleKind (Ax P w)).is h x.1 x.2.1:=by
  intro l m q
  induction q with
  |nil=>intro x F;exact nomatch F
  |@cons p q ps qs hq t ih=>
    intro x F;rcases A0G.mp F with e|F
    . subst e;exact O9 ok (by rw[<- hq.1];exact hq.2.1)
    exact ih x F
 exact all r x F
def aE0 (ok:HOk P w H h)(e:H a=some (.dT kvs)):kvs.length<=sizeLine/\(a==sysModules)=false /\
 ∃ xs,KT H kvs xs/\h.DictOfH (tupleKind (Ax P w)) a xs:=Tx ok (.inl e)
end
def DGet (H:Hp)(a:Addr)(y:V)(r:Option V):Prop:=
 (∃ kvs k,Rd H a (.dK kvs)/\y=kV k/\r=Gq kvs k)\/∃ kvs k b,Rd H a (.dT kvs)/\y = .ref b/\H b=some (.tup (k.map kV))/\r=Gq kvs k
def DPut (H:Hp)(a:Addr)(y v:V)(H':Hp):Prop:=
 (∃ kvs k,H a=some (.dK kvs)/\y=kV k/\kvs.length<sizeLine/\H'=upd H a (.dK (Io kvs k v))) \/
 ∃ kvs k b,H a=some (.dT kvs)/\y = .ref b/\H b=some (.tup (k.map kV))/\kvs.length<sizeLine/\H'=upd H a (.dT (Io kvs k v))
def DGet.k {kvs:List (Key×V)}{k:Key}(e:H a=some (.dK kvs)):DGet H a (kV k) (Gq kvs k):=.inl ⟨kvs,k,.inl e,rfl,rfl⟩
def DPut.k {kvs:List (Key×V)}{k:Key}{v:V}(e:H a=some (.dK kvs))(hl:kvs.length<sizeLine):DPut H a (kV k) v (upd H a (.dK (Io kvs k v))):=.inl ⟨kvs,k,e,rfl,hl,rfl⟩
section
variable {σ:St}{v:V}{r:Value}{o:Option V}{A:Around}{E:Value->Shared->Prop}
def Inv.big (I:Inv X pins σ H s):sysModules<s.heap.objs.size:=by have h:mainGlobals<s.heap.objs.size:=(I.mod.glob.keeps I.bk).lt;exact A3Q ∅ h
theorem Xl (hu:A.units+1<cLine)(I:Inv X pins σ H s)(g:DGet H a y (some v))(ry:RelV y u)(h:∀ F s',Inv X pins σ H s'->RelV v F->Q F s') :
 wpAny (model X.prog X.w) A (getItem (.ref a) u) Q E s:=by
 rcases g with ⟨kvs,k,e,U,l⟩|⟨kvs,k,b,e,U,eb,l⟩
 . subst U;obtain⟨z,hd,vs,Y,O⟩:=Qz I.hok e;obtain⟨F,hw,Z⟩:=RelO.some_of (v:=v) (o:=valueAt vs k) (by rw[l];exact Y.val k);exact wpAny_getItem_of (Ha ry) O.mapOf hw (h F _ (I.tok _) Z)
 subst U
 cases (show u=Value.ref b from ry);obtain⟨z,hd,xs,Y,O⟩:=Tx I.hok e;obtain⟨F,hw,Z⟩:=RelO.some_of (v:=v) (o:=(atKey xs k).map (·.2)) (by rw[l];exact Y.val k);obtain⟨p,hp,a0⟩:=A0Z.mp hw;refine wpAny_getItem_heap (A3E hu) (O9 I.hok eb) O hp ?_;rw[a0];exact h F _ (I.tok _) Z
theorem d_in (hu:A.units+1<cLine)(I:Inv X pins σ H s)(g:DGet H a y o)(Y:RelV y u)(h:∀ s',Inv X pins σ H s'->Q (.bool o.isSome) s') :
 wpAny (model X.prog X.w) A (compareOp .In u (.ref a)) Q E s:=by
 rcases g with ⟨kvs,k,e,O,l⟩|⟨kvs,k,b,e,O,Z,l⟩
 . subst O;obtain⟨z,hd,vs,U,F⟩:=Qz I.hok e;refine wpAny_in_of (Ha Y) hd F.mapOf ?_;rw[<- (U.val k).isSome_eq,<- l];exact h _ (I.tok _)
 subst O
 cases (show u=Value.ref b from Y);obtain⟨z,hd,xs,U,F⟩:=Tx I.hok e;refine wpAny_in_heap (A3E hu) (O9 I.hok Z) hd F ?_;have q:=(U.val k).isSome_eq;rw[Option.isSome_map] at q;rw[<- q,<- l];exact h _ (I.tok _)
theorem an2 (hu:A.units+1<cLine)(I:Inv X pins σ H s)(g:DGet H a y o)(Y:RelV y u)(h:∀ s',Inv X pins σ H s'->Q (.bool (!o.isSome)) s') :
 wpAny (model X.prog X.w) A (compareOp .NotIn u (.ref a)) Q E s:=by
 rcases g with ⟨kvs,k,e,O,l⟩|⟨kvs,k,b,e,O,Z,l⟩
 . subst O;obtain⟨z,hd,vs,U,F⟩:=Qz I.hok e;refine wpAny_notIn_of (Ha Y) hd F.mapOf ?_;rw[<- (U.val k).isSome_eq,<- l];exact h _ (I.tok _)
 subst O
 cases (show u=Value.ref b from Y);obtain⟨z,hd,xs,U,F⟩:=Tx I.hok e;refine wpAny_notIn_heap (A3E hu) (O9 I.hok Z) hd F ?_;have q:=(U.val k).isSome_eq;rw[Option.isSome_map] at q;rw[<- q,<- l];exact h _ (I.tok _)
def Po {h':Heap}{F:HO}(I:Inv X pins σ H s)(Y:Mut (H a))(hs:Heap.SameBut a s.heap h')(U:∃ q,h'.get? a=some q)(new:ObjOk X.prog X.w (upd H a F) h' a F) :
 Inv X pins σ (upd H a F) {s with heap:=h',toks:=t'}:=
 I.write (x:=a) (e:=a) Y (.inl rfl) (λb q O z=>(hs.2 b O).trans z) U new
def V8 {w:World}{h':Heap}{kvs:List (Key×V)}{vs:List (Key×Value)}(z:kvs.length<=sizeLine)(hd:(a==sysModules)=false)(O:KV kvs vs)(F:h'.DictOf (Ax P w) a vs) :
 ObjOk P w H' h' a (.dK kvs):=⟨z,hd,vs,O,F⟩
theorem Zb {Q:Unit->Shared->Prop}(hu:A.units+1<cLine)(I:Inv X pins σ H s)(g:DPut H a y v H')(ry:RelV y u)(rv:RelV v r)(h:∀ s',Inv X pins σ H' s'->Q () s') :
 wpAny (model X.prog X.w) A (setItem (.ref a) u r) Q E s:=by
 rcases g with ⟨kvs,k,e,ey,l,Z⟩|⟨kvs,k,b,e,ey,eb,l,Z⟩
 . subst ey Z;obtain⟨z,hd,vs,F,Y⟩:=Ox I.hok e;have hz:vs.length<=sizeLine:=by rw[<- F.length];exact z
   have hl:(Io kvs k v).length<=sizeLine:=by have:=Ja kvs k v;omega
   refine wpAny_setItem_pairs (hsz:=hz) (Ha ry) Y λh' O hs=>h _ ?_;have he:∃ q,h'.get? a=some q:=let ⟨q,_,_,U,_⟩:=O;⟨q,U⟩;exact Po I (by rw[e];exact A23) hs he (V8 hl hd (F.put k rv) O)
 subst ey Z
 cases (show u=Value.ref b from ry);obtain⟨z,hd,xs,F,Y⟩:=aE0 I.hok e;have hz:xs.length<=sizeLine:=by rw[<- A3D F];exact z
 have hl:(Io kvs k v).length<=sizeLine:=by have:=Ja kvs k v;omega
 refine wpAny_setItem_heap (hsz:=hz) (A3E hu) (O9 I.hok eb) Y λh' O hs=>h _ ?_;obtain⟨q,es,ep,U,h2,h3,h4,_,h5⟩:=O;refine Po I (by rw[e];exact A23) hs ⟨q,U⟩ ⟨hl,hd,_,(F.put k eb rv).keeps λc ys ec=>?_,q,es,ep,U,h2,h3,h4,h5⟩;rw[Ay (ne_of ec e (λz=>nomatch z))];exact ec
end
section
variable {σ:St}{kvs:List (Key×V)}{k:Key}{A:Around}{E:Value->Shared->Prop}
def aC6 (I:Inv X pins σ H s)(e:Rd H a (.dK kvs))(h:∀ t s',Inv X pins σ H s'->Q (.int kvs.length t) s'):wpAny (model X.prog X.w) A (call (.builtin "len") [.ref a]) Q E s:=by obtain⟨z,hd,vs,F,O⟩:=Qz I.hok e;refine call_len_dict hd O (by rw[<- F.length];rw[A0T] at z;omega) ?_;rw[<- F.length];exact h _ _ (I.tok _)
end
def Ts {σ:St}{o:Option V}(I:Inv X pins σ H s)(g:DGet H a y o):s.TypeIs (.ref a) "dict":=by
 rcases g with ⟨kvs,k,e,_,_⟩|⟨kvs,k,b,e,_,_,_⟩
 . obtain⟨_,_,vs,_,F⟩:=Qz I.hok e;exact F.typeIs
 obtain⟨_,_,xs,_,F⟩:=Tx I.hok e;exact F.typeIs
def av6 (td ty tv:TE):TS:=λD σ H=>tv σ H λv H1=>td σ H1 λx H2=>ty σ H2 λy O=>∃ a F,x = .ref a/\DPut O a y v F/\D.nx σ F
section
variable {o i e value:Expr}{pos' tpos:Pos}{td ty tv:TE}
def Lh (hu:X.A.units+1<cLine)(ho:PE X o td)(hi:PE X i ty)(hv:PE X value tv)(hs:swapsWith value (some (.Subscript o i pos')) pos.line X.env=pure false) :
 PS X (.Assign [.Subscript o i pos'] value pos) (av6 td ty tv):=by
 intro pins s σ H D I h;refine wpAny_Assign_Subscript (thn (hv pins s σ H _ I h) λr s1 ⟨v,H1,O,rv,q1⟩=>thn (ho pins s1 σ H1 _ O q1) λu s2 ⟨x,H2,U,rx,q2⟩=>thn (hi pins s2 σ H2 _ U q2) λiv s3 ⟨y,H3,Y,ry,a,F,ex,g,q3⟩=>?_) hs;subst ex;obtain rfl:u=Value.ref a:=rx;exact Zb hu Y g ry rv λs4 Z=>⟨σ,F,Z,q3⟩
end
def Us {w:World}(h:Heap)(F:sysModules<h.objs.size):ObjOk P w H (h.push {cls:=.type "dict",data:=.dict #[]}) h.objs.size (.dK []):=
 ⟨A1W _,A11.mpr (Ne.symm (A0N F)),[],.nil,Heap.DictOf.new h⟩
def ab6:TE:=λ_ H Q=>∀ p,H p=none->Q (.ref p) (upd H p (.dK []))
def a50:PE X (.Dict [] [] pos) ab6:=λpins s σ H Q I h=>wpAny_Dict_empty ⟨.ref s.heap.objs.size,_,I.laid (a:=s.heap.objs.size) (o:=.dK []) (t':=s.toks) (λ_ _ q=>A04 _ q) (A0B _) (Us s.heap I.big),rfl,h _ (I.hok.fresh (A0B _))⟩
def Nm:List (TE×TE)->St->Hp->(List (V×V)->Hp->Prop)->Prop
 | [],_,H,Q=>Q [] H
 | (tk,tv) :: r,σ,H,Q=>tk σ H λx H1=>tv σ H1 λy H2=>Nm r σ H2 λps F=>Q ((x,y) :: ps) F
abbrev VV:List (V×V)->List (Value×Value)->Prop:=Paired λp q=>RelV p.1 q.1/\RelV p.2 q.2
def PPs (X:Cx)(pos:Pos)(F:List (Option Expr))(U:List Expr)(O:List (TE×TE)):Prop:=
 ∀(pins:List (Addr×Obj)) (s:Shared) (σ:St) (H:Hp) (Q:List (V×V)->Hp->Prop),Inv X pins σ H s->Nm O σ H Q ->
  wpAny (model X.prog X.w) X.A (evalPairs (pairTrees F U X.env pos)) (λvs s'=>∃ ps H',Inv X pins σ H' s'/\VV ps vs/\Q ps H') X.xe s
def Su:PPs X pos [] [] []:=λpins s σ H Q I h=>pairTrees_nil_walk ⟨[],H,I,.nil,h⟩
def E1 {k v:Expr}{ks:List (Option Expr)}{vs:List Expr}{tk tv:TE}{F:List (TE×TE)}(hk:PE X k tk)(hv:PE X v tv)(hr:PPs X pos ks vs F) :
 PPs X pos (some k :: ks) (v :: vs) ((tk,tv) :: F):=λpins s σ H Q I h=>
 pairTrees_cons_walk (thn (hk pins s σ H _ I h) λu s1 ⟨x,H1,U,rx,q1⟩=>thn (hv pins s1 σ H1 _ U q1) λw2 s2 ⟨y,H2,Y,ry,q2⟩=>thn (hr pins s2 σ H2 _ Y q2) λws s3 ⟨ps,O,Z,a0,q3⟩=>⟨(x,y) :: ps,O,Z,.cons ⟨rx,ry⟩ a0,q3⟩)
def F4 (kvs more:List (Key×V)):List (Key×V):=more.foldl (λacc kv=>Io acc kv.1 kv.2) kvs
def KV.merge:∀ {more:List (Key×V)} {rs:List (Key×Value)} {kvs:List (Key×V)} {vs:List (Key×Value)},KV more rs->KV kvs vs->KV (F4 kvs more) (merged vs rs):=by
 intro more rs kvs vs r;unfold KV at r
 induction r generalizing kvs vs with
 |nil=>intro q;exact q
 |@cons p q ps qs h t ih=>
   intro F
   have e:KV (Io kvs p.1 p.2) (stored vs q.1 q.2):=by have:=F.put p.1 h.2;rw[<- h.1];exact this
   exact ih e
theorem Es:∀(more kvs:List (Key×V)),(F4 kvs more).length<=kvs.length+more.length
 | [],kvs=>by show kvs.length<=kvs.length+0;omega
 |p :: r,kvs=>by have h1:=Es r (Io kvs p.1 p.2);have h2:=Ja kvs p.1 p.2;show(F4 (Io kvs p.1 p.2) r).length<=_;rw[A0X];omega
theorem Oa {P:Program}{w:World}:∀ {kvs:List (Key×V)} {ws:List (Value×Value)},VV (kvs.map λkv=>(kV kv.1,kv.2)) ws->∃ rs,Carries (Ax P w) ws rs/\KV kvs rs
 | [], _,r=>by rw[List.map_nil] at r;cases r;exact⟨[],A23,.nil⟩
 |p :: kvs,_,r=>by
   rw[A0P] at r
   cases r with
   |@cons a b as bs h t=>obtain⟨rs,c,q⟩:=Oa (P:=P) (w:=w) t;obtain⟨O,F⟩:=b;exact⟨(p.1,F) :: rs,⟨Ha h.1,rfl,c⟩,.cons ⟨rfl,h.2⟩ q⟩
def at8 (F:List (TE×TE)):TE:=fun σ H Q=>∀ p,H p=none->Nm F σ (upd H p (.dK [])) λps H2=>H2 p=some (.dK [])/\∃ kvs:List (Key×V),ps=kvs.map (λkv=>(kV kv.1,kv.2))/\kvs.length<=15/\Q (.ref p) (upd H2 p (.dK (F4 [] kvs)))
theorem T3 {F:List (Option Expr)}{O:List Expr}{Z:List (TE×TE)}(h:PPs X pos F O Z)(a1:F.all (·.isSome)=true)(hl:F.length=O.length)(h0:F≠[])
 (a0:F.length<=15):PE X (.Dict F O pos) (at8 Z):=by
 intro pins s σ H Q I q;have hn:=I.hok.fresh (A0B s.heap.objs.size);have I1:=I.laid (a:=s.heap.objs.size) (o:=.dK []) (h':=s.heap.push {cls:=.type "dict",data:=.dict #[]}) (t':=s.toks) (λ_ _ q=>A04 _ q) (A0B _) (Us s.heap I.big);refine wpAny_Dict_walk (knd:=Ax X.prog X.w) a1 hl h0 a0 (thn (h pins _ σ _ _ I1 (q _ hn)) λws s2 ⟨ps,H2,U,a2,e,kvs,ep,lk,q2⟩=>?_);subst ep;obtain⟨rs,c,rk⟩:=Oa (P:=X.prog) (w:=X.w) a2;obtain⟨z,hd,a3,r0,dd⟩:=Ox U.hok e
 cases r0;refine⟨rs,c,dd,λh' Y hs=>⟨.ref s.heap.objs.size,_,?_,rfl,q2⟩⟩
 have hz:(F4 [] kvs).length<=sizeLine:=by have h1:=Es kvs [];rw[List.length_nil] at h1;rw[A0T];omega
 have he:∃ q,h'.get? s.heap.objs.size=some q:=let ⟨q,_,_,hq,_⟩:=Y;⟨q,hq⟩;exact Po U (by rw[e];exact A23) hs he (V8 hz hd (rk.merge .nil) Y)
structure M2 (X:Cx)(o:Expr)(m:Str)(apos:Pos)(e f:Expr)(cpos:Pos):Prop where
 base:attributeBase o m X.env (eval o X.env)=eval o X.env
 few:((backTo cpos (starEach [e,f] X.env)).all (λx=>!x.1)&&(backToKw cpos (keywordEach [] X.env)).all (λx=>x.1.isSome)
  && decide (([e,f]:List Expr).length+([]:List Keyword).length+(if([]:List Keyword).isEmpty then 0 else 1)<30))=true
 line:(apos.endLine==cpos.line)=true
 trees:backTo cpos (starEach [e,f] X.env)=[(false,eval e X.env),(false,eval f X.env)]
def IsD (H:Hp)(a:Addr):Prop:=(∃ kvs,Rd H a (.dK kvs))\/∃ kvs,Rd H a (.dT kvs)
def ay3 {σ:St}(I:Inv X pins σ H s)(d:IsD H a) :
 s.TypeIs (.ref a) "dict" /\ (∀ b,Value.ref a = .ref b->∃ F,s.heap.get? b=some F/\F.dict=none)/\(a==sysModules)=false:=by
 rcases d with ⟨kvs,e⟩|⟨kvs,e⟩
 . obtain⟨_,hd,vs,_,O⟩:=Qz I.hok e;refine⟨O.typeIs,λb q=>?_,hd⟩
   cases q;obtain⟨F,_,_,h1,h2,_⟩:=O;exact⟨F,h1,h2.2.1⟩
 obtain⟨_,hd,xs,_,O⟩:=Tx I.hok e;refine⟨O.typeIs,λb q=>?_,hd⟩
 cases q;obtain⟨F,_,_,h1,h2,_⟩:=O;exact⟨F,h1,h2.2.1⟩
section
variable {σ:St}{d:V}{r:Value}{o:Option V}{A:Around}{E:Value->Shared->Prop}
theorem av4 (hu:A.units+1<cLine)(I:Inv X pins σ H s)(g:DGet H a y o)(Z:RelV y u)(rd:RelV d r)(h:∀ w' s',Inv X pins σ H s'->RelV (o.getD d) w'->Q w' s') :
 wpAny (model X.prog X.w) A (call (.builtin "dict.get") [.ref a,u,r]) Q E s:=by
 rcases g with ⟨kvs,k,e,U,l⟩|⟨kvs,k,b,e,U,eb,l⟩
 . subst U;obtain⟨z,hd,vs,Y,O⟩:=Qz I.hok e;refine call_meetsIn A4O O.typeIs PySem.F.entry_dict_get (PySem.F.args_dict_get_3 _ _ _) (meets_dict_get_default (Ax X.prog X.w) a (Ha Z) hd r) ⟨_,O.mapOf,h _ _ (I.tok _) ?_⟩;rw[l];exact(Y.val k).getD rd
 subst U
 cases (show u=Value.ref b from Z);obtain⟨z,hd,xs,Y,O⟩:=Tx I.hok e;refine call_meetsIn A4O O.typeIs PySem.F.entry_dict_get (PySem.F.args_dict_get_3 _ _ _) (meetsH_dict_get_default (tupleKind (Ax X.prog X.w)) a b hd r) ⟨A3E hu,k,xs,O9 I.hok eb,O,h _ _ (I.tok _) ?_⟩;rw[l];exact(Y.val k).getD rd
end
def ac5 (td ty tx:TE):TE:=fun σ H Q=>td σ H λx H1=>∃ a,x = .ref a/\IsD H1 a/\ty σ H1 λy H2=>tx σ H2 λz F=>∃ o,DGet F a y o/\Q (o.getD z) F
section
variable {o e f:Expr}{apos cpos:Pos}{td ty tx:TE}
theorem Ug (hu:X.A.units+1<cLine)(ho:PE X o td)(he:PE X e ty)(hf:PE X f tx)(m:M2 X o "get" apos e f cpos):PE X (.Call (.Attribute o "get" apos) [e,f] [] cpos) (ac5 td ty tx):=by
 intro pins s σ H Q I h;refine wpAny_Call_method m.base m.few m.line PySem.F.plainAttrs_dict A4O PySem.F.type_dict_get (thn (ho pins s σ H _ I h) λu s1 ⟨x,H1,O,rx,a,ex,d,q1⟩=>?_);subst ex;obtain rfl:u=Value.ref a:=rx;obtain⟨t1,t2,_⟩:=ay3 O d;refine⟨t1,t2,?_⟩;rw[m.trees]
 refine A4I rfl (Calls.evalArgs_plain (A42 (thn (he pins s1 σ H1 _ O q1) λiv s2 ⟨y,H2,Y,ry,q2⟩=>A42 (thn (hf pins s2 σ H2 _ Y q2) λfv s3 ⟨z,U,Z,rz,ov,g,q3⟩=>Calls.spliced_nil ?_))))
 exact av4 hu Z g ry rz λw' s4 I4 a0=>⟨_,U,I4,a0,q3⟩
end
section
variable {σ:St}{kvs:List (Key×V)}{A:Around}{E:Value->Shared->Prop}
end
section
variable {σ:St}{A:Around}{E:Value->Shared->Prop}
end
end L2
namespace Att
open PySem PySem.W PySem.Calls PyProof.Rows
def Ni {P:Params}{h:Heap}:∀(ns:List Int) (vs:List Value),WellAll P h vs (ns.map WData.int)->IntsAre vs ns:=by
 intro ns
 induction ns with
 |nil=>
   intro vs w;rw[List.map_nil] at w
   cases w;exact .nil
 |cons n ns ih=>
   intro vs w;rw[A0P] at w
   cases w with
   |cons a b=>cases a;exact .cons _ _ (ih _ b)
theorem Xx {l:OpenLaw}{n:Nat}(hn:l.most=some n){P:Params}{h:Heap}{args:List WData}{Z:List Value}
 (Y:l.row.toRowW.claim.pre args=true) (a2:WellAll P h Z args) :
 ∃ a vs ns,Z=[Value.ref a]/\args=[WData.list (ns.map WData.int)]/\h.get? a=some {cls:=.type "list",data:=.seq vs.toArray}/\IntsAre vs ns/\ns.length<=n:=by
 have a1:WShape.hasAll [] args [.list .int]=true:=(pre_splitW Y).1;have U:l.pre.holds [] {args:=args}=true:=(pre_splitW Y).2;obtain⟨d,r,rfl,h1,h2⟩:=hasAllW_cons a1;obtain rfl:=hasAllW_nil h2;obtain⟨xs,rfl,h3⟩:=hasW_list h1;obtain⟨ns,rfl⟩:=items_int h3
 have a0:ns.length<=n:=by
  unfold OpenLaw.pre at U
  have F:(WTm.not (.lt (.lit (.int (n:Int))) (.len (.arg 0)))).holds [] {args:=[.list (ns.map .int)]}=true:=by have F:=(holds_andW U).1;rw[hn] at F;exact F
  have O:=condW_of F (w_not (w_lt w_lit (w_len_list (w_arg rfl))));rw[A01] at O;refine Nat.le_of_not_lt λq=>?_;have q':(n:Int)<((ns.length:Nat):Int):=by omega
  first
   | (rw[A0D q'] at O;exact absurd O ∅)
   | (simp at O;omega)
 cases a2 with
 |cons w1 w2=>
   cases w2
   cases w1 with
   |list ho hall=>exact⟨_,_,ns,rfl,rfl,ho,Ni ns _ hall,a0⟩
def Xr (l:OpenLaw)(args:List WData):l.row.toRowW.claim.post args (.bool true) args=true:=
 postW_of (r:=l.row.toRowW) (X:=(true==true))
  (show WShape.has [] (.bool true) .bool=true by first | rfl | decide | simp[WShape.has,WShape.arms,WShape.armsAll])
  (show(WTm.eq .res (.lit (.bool true))).value [] {args:=args,res:=some (.bool true),after:=args}=some (.bool (true==true)) from w_eq_bool (w_res rfl) w_lit) rfl
theorem attach_call {l:OpenLaw}{n:Nat}{q:Program}{a0:List Str}{XP:(Str->Option Value)->Heap->Prop}{YP:World->Heap->Prop}{d:DefRec}
 (hn:l.most=some n) (hdf:d.params.defaults=[])
 (call:∀(w:World) (s₀ F:Shared) (mg Z:Str->Option Value) (O:Addr) (o:Obj) (pm cd U:Value) (a:Addr) (vs:List Value) (ns:List Int),
  Ground q a0 [] XP w s₀ mg Z F.heap->YP w F.heap ->
  F.heap.get? O=some o->o.data = .func (docDef d.name d.params d.body d.scope pm cd U)->F.heap.CodeRec cd d.name->mg d.name=some (.ref O) ->
  F.heap.get? a=some {cls:=.type "list",data:=.seq vs.toArray}->IntsAre vs ns->ns.length<=n->F.gens = #[] ->
  codeAny (model l.prog w) callerA (.call (.ref O) ⟨[.ref a],[]⟩) (λr s'=>r = .ok (.ret (.bool true))/\OldK F.heap s'.heap/\s'.os=F.os/\AllBare s'.gens) F) :
 WalkO q a0 XP YP l.row.toRowW d [] (λf vs=>PySem.call f vs):=by
 intro w s₀ F mg Z G Y O o pm cd U dV kV ho hd hcd hD hmg hg args vals as hpre hlay hrd hwl hlo;obtain rfl:dV = .none:=Dflts.none hD hdf;obtain rfl:kV = .none:=Dflts.noKw hD;obtain⟨a,vs,ns,rfl,rfl,hobj,hints,hlen⟩:=Xx hn hpre hwl;refine enter_call (A43 (call w s₀ F mg Z O o pm cd U a vs ns G Y ho (fd_plain hd) hcd hmg hobj hints hlen hg) λr s' hq=>?_);obtain⟨rfl,h2,h3,h4⟩:=hq;exact⟨.inl ⟨.bool true,.bool true,[],rfl,λ_=>rfl,.bool true,Xr l _,λ_=>⟨List.Pairwise.nil,λ_ hm=>(nomatch hm)⟩⟩,h2,h3,h4⟩
section
variable {prog:Program}{w:World}{A:Around}{E:Value->Shared->Prop}{s:Shared}{K:Frag}
end
end Att
namespace L2
open PySem PySem.Spec PyProof.Rows
variable {a f l d p r:Addr}{b:Bool}{X:Cx}{D:Ends}{tg elt iter:Expr}{fd:FuncData}{H H1 H2 H':Hp}{G:Hp->Prop}{lo:Int}{J:It}{pins:List (Addr×Obj)}{kvs:List (Key×V)}{as:List Addr}{ifs:List Expr}{ds:List PyData}{ms ks:List Str}{xs ys acc:List V}{i m:Nat}{Pv:Nat->List V->Hp->Prop}{pos:Pos}{P:Program}{B:Prop}{scope:Scope}{s:Shared}{sp:Sp}{st:Stmt}{x qual y z:Str}{ts:TA}{te:TE}{g:TG}{wi:TI}{tb:TS}{tt:TT}{v:V}{Q:VK}{E:Value->Shared->Prop}
theorem Qf:∀ {vs:List Value} {ns:List Int},IntsAre vs ns->Vals (ns.map V.int) vs
 |_,_,.nil=>.nil
 |_,_,.cons n t h=>.cons ⟨t,rfl⟩ (Qf h)
def aE5 (H:Hp):Prop:=∀ b,H b=none\/∃ o xs,H b=some (.frz o (.lst xs))
theorem a44 {w:World}{K:W.Frag}{mg mb:Str->Option Value}{CX:CXT}{k:Nat}{fa:Addr}{O:Shared}{vs:List Value}{ns:List Int}
 (KX:K.In O.heap) (a4:O.heap.Ns mainGlobals mg) (U:O.heap.Ns builtinsNs mb) (hbb:∀ x:Str,x ≠ "__name__" -> mb x=bootBuiltins x) (hlim:O.heap.NoLimit) (hg:O.gens = #[])
 (ha:O.heap.get? a=some {cls:=.type "list",data:=.seq vs.toArray}) (hi:IntsAre vs ns) (hl:ns.length<=sizeLine) (hr:Room k callerA)
 (F:∀ base:Heap,K.In base->base.Ns mainGlobals mg->FnOk P w K mg base CX k fa fd [x] sp) (hbind:∀(s:Shared) (u:Value),BindsTo s fd ⟨[u],[]⟩ [(x,u)])
 (hsp:∀ H:Hp,aE5 H->SqL K H a (ns.map V.int)->sp [.ref a] H (λv _=>v = .bl true) λ_ _ _=>False)
 (hCX:∀ H e s',CX [] H O (λ_ _ _=>False) e s'->False) :
 codeAny (model P w) callerA (.call (.ref fa) ⟨[.ref a],[]⟩) (λr s'=>r = .ok (.ret (.bool true))/\OldK O.heap s'.heap/\s'.os=O.os/\AllBare s'.gens) O:=by
 have rv:=Qf hi;have lenV:=hi.length
 have a2:∀ H:Hp,aE5 H->SqL K H a (ns.map V.int)->HOk P w H O.heap->(∀ b,H b≠none->b=a)->(H a≠none->K.lookup a=none) ->
  codeAny (model P w) callerA (.call (.ref fa) ⟨[.ref a],[]⟩) (λr s'=>r = .ok (.ret (.bool true))/\OldK O.heap s'.heap/\s'.os=O.os/\AllBare s'.gens) O:=by
  intro H hO hS hok hA hK;have a1:∀ {b:Addr} {o:Obj},O.heap.get? b=some o->H b=none->(a39 O.heap H).get? b=some o:=λe n=>a25 e n
  have noA:∀ {b:Addr} {o:Obj} {es:Array DictEntry} {Y:Nat},O.heap.get? b=some o->o.data = .dict es Y->H b=none:=fun {b o es Y} e d=>by
   cases q:H b with
   |none=>rfl
   |some u=>
     have e':b=a:=hA b (by rw[q];simp);subst e';rw[ha] at e;cases e;have d':Data.seq vs.toArray _=Data.dict es Y:=d
     cases d'
  have a0:∀ {b:Addr} {m:Str->Option Value},O.heap.Ns b m->(a39 O.heap H).Ns b m:=fun {b m} ⟨o,es,Y,e,d,r⟩=>⟨o,es,Y,a1 e (noA e d),d,r⟩
  have a3:K.In (a39 O.heap H):=λb o e=>a1 (KX b o e) (by
   cases q:H b with
   |none=>rfl
   |some u=>have e':b=a:=hA b (by rw[q];simp);subst e';rw[hK (by rw[q];simp)] at e;cases e)
  have hM:Mod K mg (a39 O.heap H):=⟨a3,a0 a4,⟨mb,a0 U,hbb⟩,let ⟨mc,h1,h2⟩:=hlim;⟨mc,a0 h1,h2⟩⟩;have e0:Env0 P w K mg (a39 O.heap H) callerA [] O H:=⟨rfl,hM,λb o e=>ae2 e,Nat.le_of_eq (a00 _ _),trivial,λb U=>absurd (show b∈([]:List Addr) from U) (by simp),hok,.of_eq hg⟩;refine A43 ((F _ a3 (a0 a4)).run callerA [] O H ⟨[.ref a],[]⟩ [.ref a] [.ref a] _ _ hr e0 (hbind O (.ref a)) (.cons rfl .nil) (hsp H hO hS)) λr s' h=>?_
  cases r with
  |error e=>exact(hCX H e s' h).elim
  |ok fl=>
    cases fl with
    |next=>exact False.elim h
    |brk=>exact False.elim h
    |cont=>exact False.elim h
    |ret u=>
      obtain⟨v,H',os,bare,un,hok',r',q⟩:=h;have q':v = .bl true:=q;subst q';obtain rfl:u=Value.bool true:=r';refine⟨rfl,OldK.of_keep λb o e=>?_,os,bare⟩
      cases q:H b with
      |none=>exact un.keep b o e q (by intro z;exact absurd (show b∈([]:List Addr) from z) (by simp)) (by simp)
      |some u=>
        rcases hO b with z|⟨ob,xs,z⟩
        . rw[q] at z;cases z
        have z2:=un.frzs b ob _ z;obtain⟨e1,_⟩:=hok b _ z;obtain⟨e2,_⟩:=hok' b _ z2;rw[e] at e1;cases e1;exact e2
 cases hk:K.lookup a with
 |some o=>
   have e:=KX a o hk;rw[ha] at e
   cases e;refine a2 (λ_=>none) (λ_=>.inl rfl) (.inr ⟨_,vs.toArray,_,hk,rfl,rfl,rfl,by rw[List.size_toArray,lenV];exact hl,by simpa using rv⟩) (λb u z=>by have Z:(none:Option HO)=some u:=z;cases Z) (λb z=>absurd rfl z) λz=>absurd rfl z
 |none=>
   refine a2 (λb=>if b=a then some (.frz {cls:=.type "list",data:=.seq vs.toArray} (.lst (ns.map V.int))) else none) (λb=>?_) (.inl (.inr ⟨{cls:=.type "list",data:=.seq vs.toArray},A0K rfl⟩)) (λb u z=>?_) (λb z=>?_) λ_=>hk
   . by_cases U:b=a
     . exact .inr ⟨_,_,A0K U⟩
     exact .inl (A0J U)
   . by_cases U:b=a
     . have Z:=(A0K U).symm.trans z
       cases Z;subst U;exact⟨ha,by rw[A01];exact hl,vs,_,rv,ha⟩
     have Z:=(A0J U).symm.trans z
     cases Z
   by_cases U:b=a
   . exact U
   exact absurd (A0J U) z
theorem walk_of {l:W.OpenLaw}{n k:Nat}{q:Program}{loose:List Str}{XP:(Str->Option Value)->Heap->Prop}{Z:World->Heap->Prop}{d:DefRec}{K:Params->W.Frag}{CX:World->CXT}{sp:World->Sp}
 (hn:l.most=some n) (hn2:n<=sizeLine) (hdf:d.params.defaults=[]) (hr:Room k callerA)
 (hY:∀(w:World) (h:Heap),Z w h->(K w.params).In h)
 (F:∀(w:World) (mg:Str->Option Value) (O:Addr) (h:Heap),(K w.params).In h->h.Ns mainGlobals mg->mg d.name=some (.ref O) ->
  ∃ fd:FuncData,(∀(s:Shared) (u:Value),BindsTo s fd ⟨[u],[]⟩ [(x,u)]) /\
   ∀ base:Heap,(K w.params).In base->base.Ns mainGlobals mg->FnOk l.prog w (K w.params) mg base (CX w) k O fd [x] (sp w))
 (hsp:∀(w:World) (H:Hp) (a:Addr) (ns:List Int),ns.length<=n->aE5 H->SqL (K w.params) H a (ns.map V.int)->sp w [.ref a] H (λv _=>v = .bl true) λ_ _ _=>False)
 (hCX:∀(w:World) (H:Hp) (s:Shared) (e:Value) (s':Shared),CX w [] H s (λ_ _ _=>False) e s'->False) :
 W.WalkO q loose XP Z l.row.toRowW d [] (λf vs=>PySem.call f vs):=by
 refine Att.attach_call hn hdf λw s₀ s₁ mg mb O o pm cd doc a vs ns G Y ho hd hcd hmg hobj hints a0 hg=>?_;have U:=hY w _ Y;obtain⟨fd,hb,hF⟩:=F w mg O _ U G.T.g hmg;exact a44 U G.T.g G.T.b G.T.builtins G.T.nolimit hg hobj hints (A0M a0 hn2) hr hF hb (λH hO hS=>hsp w H a ns a0 hO hS) λH e s'=>hCX w H s₁ e s'
def af7 (s:Stmt)(j:Nat):Stmt:=match s with
 |.ClassDef _ _ _ body _ _ _ _ _ _ _=>body.getD j (.Pass ⟨0,0,0,0⟩)
 |_=>.Pass ⟨0,0,0,0⟩
def Cr (s:Stmt):Arguments:=match s with
 |.FunctionDef _ a _ _ _ _ _ _ _ _=>a
 |_=>{posonlyargs:=[],args:=[],vararg:=none,kwonlyargs:=[],kw_defaults:=[],kwarg:=none,defaults:=[]}
def Cd (s:Stmt):List Stmt:=match s with
 |.FunctionDef _ _ b _ _ _ _ _ _ _=>b
 |_=>[]
def A8 (s:Stmt):Scope:=match s with
 |.FunctionDef _ _ _ _ _ _ sc _ _ _=>sc
 |_=>{kind:=.function,names:=[],isGenerator:=false,isCoroutine:=false}
abbrev CX0:CXT:=λ_ _ _ _ _ _=>False
abbrev E0:XK:=λ_ _ _=>False
def aE2:Qw CX0 X E0:=λ_ _ _ _ _ _ _ h=>h.elim
structure Fun (K:W.Frag)(x qual:Str)(st:Stmt)(f:Addr)(fd:FuncData):Prop where
 ex:∃(oc:Value) (od:Option Addr) (kV doc pm:Value) (an:Option Addr) (cdv ct:Value) (osl:Array (Option Value)),
  fd=W.fnOf x qual (Cr st) (Cd st) (A8 st) .none kV doc pm an cdv ct/\K.lookup f=some ⟨oc,od,.func fd,osl⟩/\W.codeIn K cdv qual=true
 kp:W.keepIn K (.ref f)=true
section
variable {w:World}{K:W.Frag}{mg:Str->Option Value}{base:Heap}
theorem Fun.ok {N ps:List Str}{k:Nat}(F:Fun K x qual st f fd)(S:Am N ps (A8 st))(len:∀ vs H Q E,sp vs H Q E->vs.length=ps.length)
 (U:∀(O:Value) (A:Around) (outer:List Env) (s:Shared) (H:Hp) (vs:List V) (Q:VK) (E:XK),Room k (A.deeper (envOfC qual (A8 st) s.heap.objs.size f O))->sp vs H Q E ->
  ∃ t,PSs (a15 CX0 P w K mg base N qual (A8 st) f O A outer s H E).nox (Cd st) t/\t {nx:=λ_ H'=>Q .non H',rt:=Q} (Pq N vs) H):FnOk P w K mg base CX0 (k+1) f fd ps sp:=by
 obtain⟨oc,od,kV,a1,pm,an,O,ct,osl,rfl,lk,Y⟩:=F.ex;refine aw1 lk Y S len λA outer s H vs Q E Z a0=>?_;obtain⟨t,h,q⟩:=U O A outer s H vs Q E Z a0;exact⟨t,h.nox,q⟩
def Fun.binds {ps:List Str}(F:Fun K x qual st f fd)
 (h:∀(kV U pm:Value) (an:Option Addr) (O ct:Value) (us:List Value),us.length=ps.length->bindArgs (W.fnOf x qual (Cr st) (Cd st) (A8 st) .none kV U pm an O ct) ⟨us,[]⟩=pure (ps.zip us)):Binds K fd ps []:=by
 obtain⟨oc,od,kV,U,pm,an,O,ct,osl,rfl,lk,Y⟩:=F.ex;exact .all (h kV U pm an O ct)
def Yp {oc:Value}{od an:Option Addr}{osl:Array (Option Value)}{kV O pm F ct:Value}(l:K.lookup f=some ⟨oc,od,.func (W.fnOf x qual (Cr st) (Cd st) (A8 st) .none kV O pm an F ct),osl⟩)
 (c:W.codeIn K F qual=true) (k:W.keepIn K (.ref f)=true):Fun K x qual st f (W.fnOf x qual (Cr st) (Cd st) (A8 st) .none kV O pm an F ct):=⟨⟨oc,od,kV,O,pm,an,F,ct,osl,rfl,l,c⟩,k⟩
end
def Bh {A:Around}{k:Nat}(F:Room k A):A.units+1<cLine:=Nat.lt_of_le_of_lt (Nat.add_le_add_left (by decide:1<=64) _) F.units
def Y0 {n:Nat}(h:n<=1000):n<sizeLine:=Nat.lt_of_le_of_lt h ∅
def pv (i:Nat)(F:X.N[i]? = some x:=by ac_nf)(U:Vis X.env.scope x:=by with_unfolding_all first | exact Or.inl rfl | exact A35 (Or.inl rfl) | exact A35 (A35 rfl))(hd:(x==("__debug__":Str))=false:=by decide)
 (O:(x==("__classdict__":Str))=false:=by decide):PE X (.Name x pos) (aE7 i):=aA0 F U hd O
def iteF {A:Prop}(h:B):if false=true then A else B:=by rw[A0J A0C];exact h
def iteT {A B:Prop}(h:A):if true=true then A else B:=by rw[A0K rfl];exact h
def Same (H H':Hp):Prop:=∀ b o,H b=some o->H' b=some o
def Same.refl (H:Hp):Same H H:=λ_ _ h=>h
def Same.trans  (a:Same H H1) (b:Same H1 H2):Same H H2:=λc o h=>b c o (a c o h)
def Same.free (e:Same H H')(h:H' l=Option.none):H l=Option.none:=by
 cases q:H l with
 |none=>rfl
 |some o=>
   rw[e l o q] at h
   cases h
def Same.seq {K:W.Frag}(e:Same H H')(h:SqL K H a xs):SqL K H' a xs:=by
 rcases h with (h|⟨o,h⟩)|h
 . exact .inl (.inl (e _ _ h))
 . exact .inl (.inr ⟨o,e _ _ h⟩)
 exact .inr h
def a02:CallR X (.builtin "len") (λxs H Q=>∃ a kvs,xs=[V.ref a]/\H a=some (.dK kvs)/\Q (.int kvs.length) H):=by
 intro pins s σ H xs us Q I r h;obtain⟨a,kvs,rfl,ha,q⟩:=h;obtain⟨u,rfl,ru⟩:=Jq r
 cases ru;exact aC6 I (.inl ha) λt s' F=>⟨.int kvs.length,H,F,⟨t,rfl⟩,q⟩
section
variable {κ:Type}[DecidableEq κ]
end
def M4 (env:Env)(names:List (Str×NameKind))(acc:List (Str×Addr)):List (Str×Addr):=
 names.foldl (λacc y=>if y.2==NameKind.free then(y.1,(env.cells.lookup y.1).getD 0) :: acc else acc) acc
theorem Ob {env:Env}(h:∀ y∈scope.names,y.2=NameKind.free->∃ c,env.cells.lookup y.1=some c):closureFor scope env=pure (M4 env scope.names []):=by
 have all:∀(names:List (Str×NameKind)) (acc:List (Str×Addr)),(∀ y∈names,y.2=NameKind.free->∃ c,env.cells.lookup y.1=some c) ->
  (forIn names acc λ(y:Str×NameKind) (U:List (Str×Addr))=>(match y with
   | (name,kind)=>if(kind==NameKind.free)=true then do let c <- cellOf env name;pure (ForInStep.yield ((name,c) :: U)) else pure (ForInStep.yield U):Sem (ForInStep (List (Str×Addr)))))=(pure (M4 env names acc):Sem (List (Str×Addr))):=by
  intro names
  induction names with
  |nil=>intro acc _;rfl
  |cons y r ih=>
    intro acc O;obtain⟨n,k⟩:=y;rw[List.forIn_cons]
    by_cases hk:k=NameKind.free
    . subst hk;obtain⟨c,Z⟩:=O (n,.free) A16 rfl;have e:cellOf env n=pure c:=by unfold cellOf;rw[show env.cells.lookup n=some c from Z]
      have F:M4 env ((n,NameKind.free) :: r) acc=M4 env r ((n,c) :: acc):=by unfold M4;rw[A4N];simp only[beq_self_eq_true,if_true];rw[show env.cells.lookup n=some c from Z];rfl
      rw[F,<- ih ((n,c) :: acc) λz hz=>O z (A0I _ hz)];simp only[beq_self_eq_true,if_true,e];rfl
    have Y:(k==NameKind.free)=false:=by simpa using hk
    have F:M4 env ((n,k) :: r) acc=M4 env r acc:=by unfold M4;rw[A4N];simp only[Y,Bool.false_eq_true,if_false]
    rw[F,<- ih acc λz hz=>O z (A0I _ hz)];simp only[Y,Bool.false_eq_true,if_false];rfl
 have q:=all scope.names [] h;unfold closureFor
 first
  |exact q
  | (simp only[bind_pure];exact q)
  | (refine Eq.trans ?_ q;rfl)
theorem Vc {env:Env}{x:Str}{c:Addr}:∀ {names:List (Str×NameKind)} {acc:List (Str×Addr)},(∀ y∈names,y.2=NameKind.free->∃ c,env.cells.lookup y.1=some c)->(acc.lookup x=some c->env.cells.lookup x=some c) ->
 (M4 env names acc).lookup x=some c->env.cells.lookup x=some c
 | [],acc,_,ha,h=>ha h
 | (n,k) :: r,acc,hn,ha,h=>by
   have e:M4 env ((n,k) :: r) acc=M4 env r (if k==NameKind.free then(n,(env.cells.lookup n).getD 0) :: acc else acc):=rfl
   rw[e] at h;refine Vc (λy Z=>hn y (A0I _ Z)) (λq=>?_) h
   by_cases O:k=NameKind.free
   . subst O;simp only[beq_self_eq_true,if_true,List.lookup_cons] at q;obtain⟨d,hd⟩:=hn (n,.free) A16 rfl;have F:env.cells.lookup n=some d:=hd
     split at q
     . rename_i hx;have Y:x=n:=A2V.mp hx;rw[F] at q;rw[Y,F];exact q
     exact ha q
   have U:(k==NameKind.free)=false:=by simpa using O
   simp only[U,Bool.false_eq_true,if_false] at q;exact ha q
theorem P5 {env:Env}{x:Str}:∀ {names:List (Str×NameKind)} {acc:List (Str×Addr)},((∃ c,acc.lookup x=some c)\/(x,NameKind.free)∈names)->∃ c,(M4 env names acc).lookup x=some c
 | [],acc,h=>by
   rcases h with h|h
   . exact h
   cases h
 | (n,k) :: r,acc,h=>by
   have e:M4 env ((n,k) :: r) acc=M4 env r (if k==NameKind.free then(n,(env.cells.lookup n).getD 0) :: acc else acc):=rfl
   rw[e];refine P5 ?_
   by_cases O:k=NameKind.free
   . subst O;simp only[beq_self_eq_true,if_true,List.lookup_cons]
     by_cases U:x=n
     . left;have F:(x==n)=true:=A2V.mpr U;rw[F];exact⟨_,rfl⟩
     have F:(x==n)=false:=A11.mpr U;rw[F];rcases h with h|h
     . exact .inl h
     rcases A0G.mp h with q|q
     . cases q;exact absurd rfl U
     exact .inr q
   have F:(k==NameKind.free)=false:=by simpa using O
   simp only[F,Bool.false_eq_true,if_false];rcases h with h|h
   . exact .inl h
   rcases A0G.mp h with q|q
   . cases q;exact absurd rfl O
   exact .inr q
theorem Dg:∀(names:List (Str×NameKind)) (n:Nat) (acc:List (Str×Addr)),cellsFrom n names acc=cellsFrom n names []++acc
 | [],_,_=>rfl
 | (x,k) :: r,n,acc=>by
   unfold cellsFrom
   split
   . rw[Dg r (n+1) ((x,n) :: acc),Dg r (n+1) [(x,n)],A2K];rfl
   exact Dg r n acc
theorem Ld {x:Str}{c:Addr}:∀ {names:List (Str×NameKind)} {n:Nat},(x,c)∈cellsFrom n names []->(x,NameKind.cell)∈names
 | [],_,h=>by cases h
 | (y,k) :: r,n,h=>by
   unfold cellsFrom at h
   split at h
   . rename_i hk;rw[Dg] at h;rcases A0O.mp h with h|h
     . exact A0I _ (Ld h)
     have e:=A0Q.mp h
     cases e;rw[A2V.mp hk];exact A16
   exact A0I _ (Ld h)
theorem Mw {α:Type}{x:Str}{c:α}:∀ {l:List (Str×α)},(x,c)∈l->∃ d,l.lookup x=some d
 | [],h=>by cases h
 | (y, d) :: r,h=>by
   rw[A1L]
   cases e:x==y with
   |true=>exact⟨d,rfl⟩
   |false=>
     rcases A0G.mp h with q|q
     . cases q;simp at e
     exact Mw q
theorem Kb {x:Str}:∀ {names:List (Str×NameKind)} {n:Nat},(x,NameKind.cell)∈names->∃ c,(x,c)∈cellsFrom n names []
 | [],_,h=>by cases h
 | (y,k) :: r,n,h=>by
   unfold cellsFrom
   split
   . rw[Dg];rcases A0G.mp h with q|q
     . cases q;exact⟨n,List.mem_append_right _ (by simp)⟩
     obtain⟨c,F⟩:=Kb (n:=n+1) q;exact⟨c,A3V _ F⟩
   rename_i hk;rcases A0G.mp h with q|q
   . cases q;exact absurd rfl hk
   exact Kb q
def V0 (outer scope:Scope)(xs fr:List Str):Bool:=
 (scope.kind == .function)&&(outer.kind == .function)&&decide (scope.names.map (·.1)).Nodup
 && (scope.names.all λy=>y.2 != .local||scope.names.lookup y.1==some .local)
 && (scope.names.all λy=>y.2 != .free||(outer.names.lookup y.1==some .cell||outer.names.lookup y.1==some .free))
 && (scope.names.all λy=>y.2 != .free||scope.names.lookup y.1==some .free)
 && (xs.all λx=>scope.names.lookup x==some .local||scope.names.lookup x==some .cell)&&(fr.all λx=>scope.names.lookup x==some .free)&&decide (xs++fr).Nodup
theorem Cz {α:Type}{x:Str}{v:α}:∀ {l:List (Str×α)},l.lookup x=some v->(x,v)∈l
 | [],h=>by cases h
 | (n,k) :: r,h=>by
   rw[A1L] at h
   split at h
   . rename_i hx;have F:x=n:=A2V.mp hx
     cases h;rw[F];exact A16
   exact A0I _ (Cz h)
theorem J0 {scope:Scope}{env:Env}{x:Str}{k:NameKind}(Y:env.scope.kind = .function):∀ {names:List (Str×NameKind)},names.lookup x=some k ->
 (names.map λ(n,k)=>if(k==NameKind.free&&env.scope.kind == .function&&env.kindOf n==some .cell) then(n,NameKind.cell) else(n,k)).lookup x=some (if(k==NameKind.free&&env.kindOf x==some .cell) then .cell else k)
 | [],h=>by cases h
 | (n,j) :: r,h=>by
   have Z:=@J0 scope env x k Y r;rw[A0P];rw[A1L] at h;dsimp only
   split at h
   . rename_i hx;have O:x=n:=A2V.mp hx
     cases h;subst O
     by_cases F:(k==NameKind.free&&env.scope.kind == .function&&env.kindOf x==some .cell)=true
     . have U:(k==NameKind.free&&env.kindOf x==some .cell)=true:=by rw[A0W,A0W] at F;rw[A0W];exact⟨F.1.1,F.2⟩
       rw[A0K F,A0K U,A1L,A4G]
     have U:¬ (k==NameKind.free&&env.kindOf x==some .cell)=true:=λq=>F (by rw[A0W] at q;rw[A0W,A0W,Y];exact⟨⟨q.1,rfl⟩,q.2⟩)
     rw[A0J F,A0J U,A1L,A4G]
   rename_i hx;have O:(x==n)=false:=by simpa using hx
   by_cases F:(j==NameKind.free&&env.scope.kind == .function&&env.kindOf n==some .cell)=true
   . rw[A0K F,A1L,O];exact Z h
   rw[A0J F,A1L,O];exact Z h
theorem G4 {env:Env} {x:Str} {k:NameKind}:∀ {names:List (Str×NameKind)},
 (names.map λ(n,k)=>if(k==NameKind.free&&env.scope.kind == .function&&env.kindOf n==some .cell) then(n,NameKind.cell) else(n,k)).lookup x=some k ->
 ∃ j,names.lookup x=some j/\(k=j\/(j = .free/\k = .cell))
 | [],h=>by cases h
 | (n,j) :: r,h=>by
   have O:=@G4 env x k r;rw[A0P] at h;dsimp only at h
   by_cases F:(j==NameKind.free&&env.scope.kind == .function&&env.kindOf n==some .cell)=true
   . rw[A0K F,A1L] at h
     have U:j = .free:=by rw[A0W,A0W] at F;exact A2V.mp F.1.1
     rw[A1L]
     split at h
     . rename_i hx
       cases h;exact⟨j,rfl,.inr ⟨U,rfl⟩⟩
     rename_i hx;have Y:(x==n)=false:=by simpa using hx
     exact O h
   rw[A0J F,A1L] at h;rw[A1L]
   split at h
   . rename_i hx
     cases h;exact⟨_,rfl,.inl rfl⟩
   rename_i hx;have Y:(x==n)=false:=by simpa using hx
   exact O h
structure CompS (X:Cx)(scope:Scope)(xs fr:List Str):Prop where
 kind:scope.kind = .function
 okind:X.env.scope.kind = .function
 uniq:(scope.names.map (·.1)).Nodup
 names:∀ y∈scope.names,y.2 = .local->scope.names.lookup y.1=some .local
 free:∀ y∈scope.names,y.2 = .free->X.env.kindOf y.1=some .cell\/X.env.kindOf y.1=some .free
 own:∀ x∈xs,scope.names.lookup x=some .local\/scope.names.lookup x=some .cell
 fre:∀ x∈fr,scope.names.lookup x=some .free
 nd:(xs++fr).Nodup
def Ui {xs fr:List Str}(h:V0 X.env.scope scope xs fr=true):CompS X scope xs fr:=by unfold V0 at h;simp only[Bool.and_eq_true,List.all_eq_true,bne_iff_ne,Bool.or_eq_true,beq_iff_eq,decide_eq_true_eq] at h;obtain⟨⟨⟨⟨⟨⟨⟨⟨h1,h2⟩,O⟩,U⟩,Y⟩,h6⟩,Z⟩,h8⟩,h9⟩:=h;exact⟨h1,h2,O,λy F e=>(U y F).resolve_left (λq=>q e),λy F e=>(Y y F).resolve_left (λq=>q e),Z,h8,h9⟩
def Mm (σ:St)(js:List Nat):St:=js.map λj=>(σ[j]?).getD none
abbrev cxC (X:Cx)(scope:Scope)(xs fr:List Str)(C:Addr)(ex:List Addr)(s₀:Shared)(H₀:Hp):Cx:=
 {X with N:=xs++fr,env:=compEnvC scope (cellsFrom (C+1) scope.names (M4 X.env scope.names [])) C X.env,s₀:=s₀,H₀:=H₀,outer:=X.stack,ex:=ex,fn:=λx=>scope.names.lookup x==some .cell,pn:=[],xe:=λ_ _=>False}
section
variable {xs fr:List Str}{σ:St}{js:List Nat}{fp:List Addr}
theorem Rr {α:Type}{x:Str}{v:α}:∀ {l:List (Str×α)},(l.map (·.1)).Nodup->(x,v)∈l->l.lookup x=some v
 | [],_,h=>by cases h
 | (y,d) :: r,hn,h=>by
   obtain⟨h1,h2⟩:=A12.mp hn;rw[A1L];rcases A0G.mp h with q|q
   . cases q;rw[A4G]
   have F:(x==y)=false:=A11.mpr λe=>h1 (e ▸ A0A.mpr ⟨(x,v),q,rfl⟩);rw[F];exact Rr h2 q
theorem CompS.cells (S:CompS X scope xs fr)(ok:X.Ok):∀ y∈scope.names,y.2=NameKind.free->∃ c,X.env.cells.lookup y.1=some c:=λy F e=>ok.has _ (S.free y F e)
theorem a28 (S:CompS X scope xs fr)(a8:js.map (λj=>X.N[j]?)=fr.map some)(I:Inv X pins σ H s)(a4:∀ b∈fp,Uz X pins H b)(aE:∀ b∈fp,∃ o,s.heap.get? b=some o){h':Heap}{t':Nat}
 (hn:h'.Ns s.heap.objs.size λ_=>none) (keep:∀ b o,s.heap.get? b=some o->h'.get? b=some o) (a3:CellsOk h' (s.heap.objs.size+1) (cellsFrom (s.heap.objs.size+1) scope.names [])) :
 Inv (cxC X scope xs fr s.heap.objs.size fp s H) [] (List.replicate xs.length none++Mm σ js) H {s with heap:=h',toks:=t'}:=by
 have aB:=S.cells I.ok;have sub:∀ x c,(M4 X.env scope.names []).lookup x=some c->X.env.cells.lookup x=some c:=λx c h=>Vc aB (λq=>by cases q) h;have hl:js.length=fr.length:=by have:=congrArg List.length a8;rwa[A01,A01] at this
 have two:∀ x c,(cellsFrom (s.heap.objs.size+1) scope.names (M4 X.env scope.names [])).lookup x=some c->(x,c)∈cellsFrom (s.heap.objs.size+1) scope.names []\/(M4 X.env scope.names []).lookup x=some c:=λx c h=>by
  rw[Dg,A44] at h
  cases e:(cellsFrom (s.heap.objs.size+1) scope.names []).lookup x with
  |some d=>
    rw[e] at h
    cases h;exact .inl (Cz e)
  |none=>rw[e] at h;exact .inr h
 have a9:∀ x c,X.env.cells.lookup x=some c->c<s.heap.objs.size:=λx c h=>let ⟨_,_,Y,_⟩:=I.cell x c h;A09 Y;have a0:∀ x c,(x,c)∈cellsFrom (s.heap.objs.size+1) scope.names []->s.heap.objs.size<c:=λx c h=>(a3.empty x c h).2
 refine⟨⟨I.ok.mod,S.kind,I.ok.glob,I.ok.blt,A0B _,λx y c h1 h2=>?_,λx hx=>?_,λx c hf h=>?_,I.ok.hd,I.ok.frames,.inl rfl,λb hb=>?_,λb o e=>I.bs b o e,A0M I.ok.bsz I.sz,λb o e hb=>?_,λb hb aA=>?_,I.stack,I.stkFree⟩,
  rfl,I.bare,Un.kept keep,⟨_,hn,λi x v e1 O e3=>?_⟩,λx c h=>?_,I.hok.fresh (Nat.le_refl _),λx c h=>?_,λp hp=>absurd (show p∈([]:List (Addr×Obj)) from hp) (by simp),I.hok.kept keep,?_⟩
 . rcases two x c h1 with g1|g1
   . rcases two y c h2 with g2|g2
     . exact name_of_addr a3.apart g1 g2
     exact absurd (a9 y c (sub y c g2)) (Nat.not_lt.mpr (A27 (a0 x c g1)))
   rcases two y c h2 with g2|g2
   . exact absurd (a9 x c (sub x c g1)) (Nat.not_lt.mpr (A27 (a0 y c g2)))
   exact I.ok.inj x y c (sub x c g1) (sub y c g2)
 . -- the names that are cells there have one
   have hx:(relabel scope X.env).names.lookup x=some .cell\/(relabel scope X.env).names.lookup x=some .free:=hx
   have a5:∀ c,(M4 X.env scope.names []).lookup x=some c\/(x,c)∈cellsFrom (s.heap.objs.size+1) scope.names []->∃ c,(cellsFrom (s.heap.objs.size+1) scope.names (M4 X.env scope.names [])).lookup x=some c:=λc h=>by
    rw[Dg,A44];rcases h with h|h
    . cases (cellsFrom (s.heap.objs.size+1) scope.names []).lookup x with
      |some d=>exact⟨d,rfl⟩
      |none=>exact⟨c,h⟩
    obtain⟨d,hd⟩:=Mw h;rw[hd];exact⟨d,rfl⟩
   have go:∀ k,(relabel scope X.env).names.lookup x=some k->(k = .cell\/k = .free)->∃ c,(cellsFrom (s.heap.objs.size+1) scope.names (M4 X.env scope.names [])).lookup x=some c:=λk e F=>by
    obtain⟨j,hj,q⟩:=G4 (env:=X.env) (names:=scope.names) e;have hm:=Cz hj
    have a1:j = .free\/j = .cell:=by
     rcases q with q|q
     . rcases F with F|F
       . exact .inr (q ▸ F)
       exact .inl (q ▸ F)
     exact .inl q.1
    rcases a1 with a1|a1
    . subst a1;obtain⟨c,U⟩:=P5 (env:=X.env) (x:=x) (names:=scope.names) (acc:=[]) (.inr hm);exact a5 c (.inl U)
    subst a1;obtain⟨c,U⟩:=Kb (n:=s.heap.objs.size+1) hm;exact a5 c (.inr U)
   rcases hx with hx|hx
   . exact go _ hx (.inl rfl)
   exact go _ hx (.inr rfl)
 . rcases two x c h with g|g
   . exact A27 (a0 x c g)
   have aC:scope.names.lookup x=some .cell:=by simpa using hf
   obtain⟨d,hd⟩:=Kb (n:=s.heap.objs.size+1) (Cz aC);have h':=h;obtain⟨e,he⟩:=Mw hd;have h':(cellsFrom (s.heap.objs.size+1) scope.names (M4 X.env scope.names [])).lookup x=some c:=h;rw[Dg,A44,he] at h'
   cases h';exact A27 (a0 x _ (Cz he))
 . obtain⟨f0,f1,f2,Z,f4,f5⟩:=a4 b hb;obtain⟨o,Y⟩:=aE b hb;refine⟨A0N (A09 Y),λx c h z=>?_⟩;rcases two x c h with g|g
   . have h1:=a0 x c g;have h2:=A09 Y;rw[<- z] at h2;exact absurd h1 (Nat.not_lt.mpr (A27 h2))
   exact f4 x c (sub x c g) z
 . obtain⟨f0,f1,f2,Z,f4,f5⟩:=a4 b hb;rcases Z with Z|Z
   . exact I.ok.noex b o e Z
   exact absurd (A0Y (A09 (I.ok.bs b o e).1) Z) (A2E _)
 . obtain⟨f0,f1,f2,Z,f4,f5⟩:=a4 b hb;rcases A0G.mp (I.stkSub b aA) with z|z
   . exact f1 z
   exact f2 z
 . have e1:(xs++fr)[i]? = some x:=e1
   by_cases hi:i<xs.length
   . rw[A1B (by rw[A1R];exact hi),A4E,A0K hi] at O
     cases O
   have a7:xs.length<=i:=Nat.le_of_not_lt hi;rw[A17 a7] at e1;rw[A17 (by rw[A1R];exact a7),A1R] at O;unfold Mm at O;rw[A06] at O
   cases ej:js[i-xs.length]? with
   |none=>rw[ej] at O;cases O
   |some j=>
     rw[ej] at O;have a2:(σ[j]?).getD none=some v:=A10 O
     have e4:σ[j]? = some (some v):=by
      cases q:σ[j]? with
      |none=>rw[q] at a2;cases a2
      |some o=>rw[q] at a2;rw[show o=some v from a2]
     have e5:X.N[j]? = some x:=by have:=congrArg (λl=>l[i-xs.length]?) a8;rw[A06,A06,ej,e1] at this;exact A10 this
     have hf:=S.fre x (A05 e1);have F:=S.free _ (Cz hf) rfl;obtain⟨m,hm,aD⟩:=I.loc;obtain⟨u,r,lk⟩:=aD j x v e5 e4 (.inr F);refine⟨u,r,.inr ⟨?_,?_⟩⟩
     . have q:=J0 (scope:=scope) (env:=X.env) S.okind hf;show(relabel scope X.env).names.lookup x=some .cell\/(relabel scope X.env).names.lookup x=some .free;have q':(relabel scope X.env).names.lookup x=some (if(NameKind.free==NameKind.free&&X.env.kindOf x==some .cell) then .cell else .free):=q
       by_cases U:(NameKind.free==NameKind.free&&X.env.kindOf x==some .cell)=true
       . rw[A0K U] at q';exact .inl q'
       rw[A0J U] at q';exact .inr q'
     obtain⟨c',a6⟩:=P5 (env:=X.env) (x:=x) (names:=scope.names) (acc:=[]) (.inr (Cz hf));rcases lk with ⟨z,_⟩|⟨_,c,U,ob,Y,hd⟩
     . rcases F with F|F
       . rw[z] at F;cases F
       rw[z] at F;cases F
     have e6:c=c':=by have:=sub x c' a6;rw[U] at this;exact A10 this
     subst e6;refine⟨_,?_,ob,keep _ _ Y,hd⟩;show(cellsFrom (s.heap.objs.size+1) scope.names (M4 X.env scope.names [])).lookup x=some c;rw [Dg,A44]
     have aF:(cellsFrom (s.heap.objs.size+1) scope.names []).lookup x=none:=by
      cases e:(cellsFrom (s.heap.objs.size+1) scope.names []).lookup x with
      |none=>rfl
      |some d=>
        have:=Rr S.uniq (Ld (Cz e));rw[hf] at this
        cases this
     rw[aF];exact a6
 . rcases two x c h with g|g
   . exact⟨_,(a3.empty x c g).1⟩
   obtain⟨v,ob,Y,hd⟩:=I.cell x c (sub x c g);exact⟨v,ob,keep _ _ Y,hd⟩
 . rcases two x c h with g|g
   . exact I.hok.fresh (A27 (a0 x c g))
   exact I.freeC x c (sub x c g)
 show _=(xs++fr).length;unfold Mm;rw[A08,A08,A1R,A01,hl]
theorem Ym {M:Model}{A:Around}{F:Addr}{cl:List (Str×Addr)}{env:Env}{Q:Env->Shared->Prop}
 (U:∀ h',h'.Ns s.heap.objs.size (λ_=>none)->(∀ b o,s.heap.get? b=some o->h'.get? b=some o)->CellsOk h' (s.heap.objs.size+1) (cellsFrom (s.heap.objs.size+1) scope.names []) ->
  Q (newEnv scope s.heap.objs.size F (cellsFrom (s.heap.objs.size+1) scope.names cl) qual none .none (some env) builtinsNs) {s with heap:=h'}) :
 wpAny M A (newFunctionEnv scope F cl [] qual none .none (some env)) Q E s:=by
 simp only[newFunctionEnv,Option.isSome_some,if_true];refine A02 (wpAny_alloc ?_);refine wpAny_bind (wpAny_layCells _ (λname kind cells=>by cases hkc:kind==NameKind.cell<;>simp[hkc]) _ _ _ _ ?_)
 have O:=cellsFrom_ok scope.names (s.heap.push {cls:=.type "dict",data:=.dict #[]}) (s.heap.objs.size+1) [] ⟨λ_ _ hm=>(nomatch hm),List.Pairwise.nil⟩ (by rw[A1U];exact A0B _);rw[A1U] at O;rw[show({s with heap:=s.heap.push {cls:=.type "dict",data:=.dict #[]}}:Shared).heap.objs.size=s.heap.objs.size+1 from A1U ..]
 rw[List.forIn_nil];exact A02 (A07 (A07 (U _ ((Heap.Ns.new s.heap (.type "dict")).keeps (pushCells_keeps _ _)) (λb o e=>pushCells_keeps _ _ b o (A04 _ e)) O)))
theorem Y6 {σ':St}{s':Shared}{a0:Heap}(I:Inv X pins σ H s)(a1:∀ b∈fp,Uz X pins H b)(J:Inv (cxC X scope xs fr s.heap.objs.size fp s H) [] σ' H' s')(hs:Heap.SameBut s.heap.objs.size s'.heap a0) :
 Inv X pins σ H' {s' with heap:=a0}:=by
 have old:∀ b o,s.heap.get? b=some o->b≠s.heap.objs.size:=λb o e=>A0N (A09 e);have F:Un (frs X.stack) fp H H' s.heap s'.heap:=J.base;refine I.call' (s':={s' with heap:=a0}) (ch:=fp) J.os ⟨λb o e n U Y=>(hs.2 b (old b o e)).trans (F.keep b o e n U Y),λb o e n U Y=>?_,F.free,λb o e Y=>?_,F.tups,F.frzs,F.tbls⟩ (λb o e=>?_) J.bare λb U=>?_
 . obtain⟨sl,Z⟩:=F.slot b o e n U Y;exact⟨sl,(hs.2 b (old b o e)).trans Z⟩
 . obtain⟨o',Z⟩:=F.there b o e Y;exact⟨o',(hs.2 b (old b o e)).trans Z⟩
 . have hf:H' s.heap.objs.size=none:=J.free;refine(J.hok b o e).stay (λc v O q=>(hs.2 c ?_).trans q) (λ_ q=>q) λ_ _ q=>q;intro z;rcases O with O|O
   . rw[<- O,z,hf] at e;cases e
   rw[z,hf] at O;cases O
 obtain⟨f0,f1,f2,f3,f4,f5⟩:=a1 b U;exact⟨f3,f1,f4,f5⟩
def PIf (X:Cx)(ifs:List Expr)(t:TT):Prop:=
 ∀(pins:List (Addr×Obj)) (s:Shared) (σ:St) (H:Hp) (Q:Bool->Hp->Prop) (E:Value->Shared->Prop),(∀ e s',X.xe e s'->E e s')->Inv X pins σ H s->t σ H Q ->
  wpAny (model X.prog X.w) X.A (forIn ifs true λc r=>if r=true then do let ok <- isTrue c X.env (eval c X.env);pure (ForInStep.yield ok) else pure (ForInStep.yield r)) (TP X pins σ Q) E s
def W1:TT:=λ_ H Q=>Q true H
def B2:PIf X [] W1:=λ_ _ _ H _ _ _ I h=>wpAny_tests_nil ⟨H,I,h⟩
def Bw {c:Expr}{t:TT}(O:PT X c t):PIf X [c] t:=λpins s σ H Q _ F I h=>wpAny_tests_one (A22 (O pins s σ H Q I h) (λ_ _ z=>z) F)
def aj8 (k:Nat)(js:List Nat)(wi:TI)(g:TG)(tt:TT)(te:TE):TE:=fun σ H Q=>wi σ H λJ H1=>∀ p,H1 p=none ->
 ∃ W:Nat->Nat->Hp->Prop,(∃ m,W 0 m (upd H1 p (.lst [])))/\∀ i m H,W i m H ->
  (J.stop i H/\Q (.ref p) H)\/(J.go i H/\∃ N:Hp->Prop,(∀ H',N H'->∃ U,U<m/\W (i+1) U H') /\
   ∀ x H',J.yld i H x H'->g x (List.replicate k none++Mm σ js) H' fun σ2 H2=>tt σ2 H2 λb F=>if b=true then te σ2 F λy O=>∃ acc,O p=some (.lst acc)/\acc.length<sizeLine/\N (upd O p (.lst (acc++[y]))) else N F)
theorem a07 {it acc:Value}{env:Env}{A:Around}{R:Result->Shared->Prop}{w:World}(I:Nat->Shared->Prop)
 (a1:∀ n s,I n s->wpAny (model P w) A (pyNext it) (λr F=>match r with
  |none=>R (.ok .next) F
  |some v=>wpAny (model P w) A (letOwnedTupleGo tg it v) (λ_ Z=>wpAny (model P w) A (assign tg env v) (λ_ s₂=>
   wpAny (model P w) A (forIn ifs true λc r=>if r=true then do let ok <- isTrue c env (eval c env);pure (ForInStep.yield ok) else pure (ForInStep.yield r)) (λok O=>
    if ok=true then wpAny (model P w) A (eval elt env) (λx s₄=>wpAny (model P w) A (call (.builtin "list.append") [acc,x]) (λ_ s₅=>∃ m,m<n/\I m s₅) (λ_ _=>False) s₄) (λ_ _=>False) O
    else ∃ m,m<n/\I m O) (λ_ _=>False) s₂) (λ_ _=>False) Z) (λ_ _=>False) F) (λ_ _=>False) s)
 (n:Nat) (h:I n s):codeAny (model P w) A (.compLoop (.ListComp elt [⟨tg,iter,ifs,0⟩] scope pos) 0 it acc env) R s:=by
 refine codeAny_loop rfl I (λn s hI=>?_) n h;show wpAny _ A ((compTurn (.ListComp elt [⟨tg,iter,ifs,0⟩] scope pos) 0 it acc env).onRaise (λx=>do noteFrame x env;theTreesLotGoes x)) _ _ s
 refine wpAny_noted ?_;rw [compTurn_list];refine A02 (A59 (A02 (A22 (a1 n s hI) (λr F U=>?_) λ_ _ h'=>h'.elim)))
 cases r with
 |none=>exact A07 U
 |some v=>
   refine A02 (A22 U (λ_ Z a0=>?_) λ_ _ h'=>h'.elim);refine A02 (A22 a0 (λ_ s₂ h₂=>A02 (A22 h₂ (λok O Y=>?_) λ_ _ h'=>h'.elim)) λ_ _ h'=>h'.elim)
   cases ok with
   |false=>exact A07 ⟨rfl,Y⟩
   |true=>exact A02 (A02 (A22 Y (λx s₄ h₄=>A02 (A22 h₄ (λ_ s₅ h₅=>A07 (A07 ⟨rfl,h₅⟩)) λ_ _ h'=>h'.elim)) λ_ _ h'=>h'.elim))
def Y4 (n:Nat)(g:TG):Prop:=∀ x σ H Q,g x σ H Q->g x σ H fun σ' H'=>(∀ k,n<=k->σ'[k]? = σ[k]?)/\Q σ' H'
def V6 (n:Nat)(g:TGs):Prop:=∀ vs σ H Q,g vs σ H Q->g vs σ H fun σ' H'=>(∀ k,n<=k->σ'[k]? = σ[k]?)/\Q σ' H'
def Ap {n:Nat}(h:i<n):Y4 n (Ht i):=λx σ H Q q=>⟨λk F=>A1X (by omega),q⟩
def aa8 {n:Nat}:V6 n ae6:=λvs σ H Q ⟨e,q⟩=>⟨e,λ_ _=>rfl,q⟩
def Q9 {n:Nat}{u:TGs}(h:i<n)(hu:V6 n u):V6 n (M8 (Ht i) u):=λvs σ H Q ⟨v,r,e,q⟩=>by
 refine⟨v,r,e,?_⟩;have Y:u r (σ.set i (some v)) H Q:=q;show u r (σ.set i (some v)) H _;have z:=hu _ _ _ _ Y
 have O:(λ(σ':St) (H':Hp)=>(∀ k,n<=k->σ'[k]? = (σ.set i (some v))[k]?)/\Q σ' H')=fun σ' H'=>(∀ k,n<=k->σ'[k]? = σ[k]?)/\Q σ' H':=by
  funext σ' H'
  have U:(∀ k,n<=k->σ'[k]? = (σ.set i (some v))[k]?) = ∀ k,n<=k->σ'[k]? = σ[k]?:=by
   refine propext ⟨λf k F=>?_,λf k F=>?_⟩
   . rw[f k F,A1X (by omega)]
   rw[f k F,A1X (by omega)]
  rw[U]
 rw[O] at z;exact z
def ac8 {K:W.Frag}{n:Nat}{u:TGs}(hu:V6 n u):Y4 n (ab4 K m u):=λx σ H Q ⟨a,xs,e,F,hl,q⟩=>⟨a,xs,e,F,hl,hu _ _ _ _ q⟩
theorem Uk (hc:X.calm=true)(S:CompS X scope xs fr)(aN:js.map (λj=>X.N[j]?)=fr.map some)
 (hg:∀ C ex s₀ H₀,PG (cxC X scope xs fr C ex s₀ H₀) tg g) (hk:Y4 xs.length g) (hi:∀ C ex s₀ H₀,PIf (cxC X scope xs fr C ex s₀ H₀) ifs tt) (he:∀ C ex s₀ H₀,PE (cxC X scope xs fr C ex s₀ H₀) elt te)
 {O:Shared}  {R:Value->Addr->Result->Shared->Prop}  {it:Addr} {tn:Nat->Heap->Prop}  (I:Inv X pins σ H1 O) (T:Xu X.prog X.w X.K tg J fp it tn) (st:tn 0 O.heap) (aM:∀ b∈fp,Uz X pins H1 b)
 (hq:∀ p,H1 p=none->∃ W:Nat->Nat->Hp->Prop,(∃ m,W 0 m (upd H1 p (.lst [])))/\∀ i m H,W i m H ->
  (J.stop i H/\Q (.ref p) H)\/(J.go i H/\∃ N:Hp->Prop,(∀ H',N H'->∃ m',m'<m/\W (i+1) m' H') /\
   ∀ x H',J.yld i H x H'->g x (List.replicate xs.length none++Mm σ js) H' fun σ2 H2=>tt σ2 H2 λb U=>if b=true then te σ2 U λy H4=>∃ acc,H4 p=some (.lst acc)/\acc.length<sizeLine/\N (upd H4 p (.lst (acc++[y]))) else N U))
 (hR:∀(p C:Addr) (s':Shared) (H':Hp),(∃ m,s'.heap.Ns C m)->Uz X pins H' C->Inv X pins σ H' s'->Q (.ref p) H'->R (.ref p) C (.ok .next) s') :
 wpAny (model X.prog X.w) X.A (newList []) (λacc s₃=>wpAny (model X.prog X.w) X.A (newFunctionEnv scope X.env.globals (M4 X.env scope.names []) [] X.env.qual none .none (some X.env)) (λa6 s₄=>
  codeAny (model X.prog X.w) X.A (.compStart (.ListComp elt [⟨tg,iter,ifs,0⟩] scope pos) 0 (.ref it) acc {a6 with scope:=relabel scope X.env}) (R acc a6.locals) s₄) X.xe s₃) X.xe O:=by
 refine A2J ?_ (by show 0<=sizeLine;exact A1W _);have aO:H1 O.heap.objs.size=none:=I.hok.fresh (A0B _);have I3:Inv X pins σ (upd H1 O.heap.objs.size (.lst [])) {O with heap:=O.heap.push {cls:=.type "list",data:=.seq ([]:List Value).toArray}}:=I.laid (t':=O.toks) (λb u e=>A04 _ e) (A0B _) ⟨A1W _,[],0,.nil,A0F _ rfl⟩
 obtain⟨W,⟨m0,w0⟩,aE⟩:=hq _ aO;have a9:∀ b∈fp,∃ o,O.heap.get? b=some o:=λb F=>let ⟨o,e,_⟩:=T.obj _ _ st b F;⟨o,e⟩
 have a0:∀ b∈fp,Uz X pins (upd H1 O.heap.objs.size (.lst [])) b:=λb F=>by obtain⟨f0,f⟩:=aM b F;obtain⟨o,e⟩:=a9 b F;exact⟨by rw[Ay (A0N (A09 e))];exact f0,f⟩
 have aQ:∀ b∈fp,∃ o,(O.heap.push {cls:=.type "list",data:=.seq ([]:List Value).toArray}).get? b=some o:=λb F=>let ⟨o,e⟩:=a9 b F;⟨o,A04 _ e⟩;have aW:tn 0 (O.heap.push {cls:=.type "list",data:=.seq ([]:List Value).toArray}):=T.keep _ _ _ st λb _ o e=>A04 _ e;generalize aB:({O with heap:=O.heap.push {cls:=.type "list",data:=.seq ([]:List Value).toArray}}:Shared)=s3 at I3 ⊢;have aX:tn 0 s3.heap:=by rw[<- aB];exact aW
 have aA:∀ b∈fp,∃ o,s3.heap.get? b=some o:=by rw[<- aB];exact aQ
 generalize aY:upd H1 O.heap.objs.size (.lst [])=U at I3 a0 w0;generalize aZ:O.heap.objs.size=p0 at aE ⊢;refine Ym λh₁ aP a8 aL=>?_;have I4:=a28 (t':=s3.toks) S aN I3 a0 aA aP a8 aL;have a1:tn 0 h₁:=T.keep _ _ _ aX λb F o e=>a8 b o e
 have aC:∀ s₄:Shared,Inv (cxC X scope xs fr s3.heap.objs.size fp s3 U) [] (List.replicate xs.length none++Mm σ js) U s₄->tn 0 s₄.heap ->
  codeAny (model X.prog X.w) X.A (.compLoop (.ListComp elt [⟨tg,iter,ifs,0⟩] scope pos) 0 (.ref it) (.ref p0) (compEnvC scope (cellsFrom (s3.heap.objs.size+1) scope.names (M4 X.env scope.names [])) s3.heap.objs.size X.env)) (R (.ref p0) s3.heap.objs.size) s₄:=by
  intro s₄ I4 a1
  have a4:∀ {H':Hp},(∀ b∈fp,H' b=none)->∀ b∈fp,Uz (cxC X scope xs fr s3.heap.objs.size fp s3 U) [] H' b:=fun {H'} hn b F=>by obtain⟨f0,f1,f2,f3,f4,f5⟩:=a0 b F;obtain⟨o,e⟩:=aA b F;refine⟨hn b F,Nat.ne_of_lt (Heap.lt_size e),I4.ok.exfs b F,.inl F,λx c h=>(I4.ok.exf b F).2 x c h,λp hp=>absurd (show p∈([]:List (Addr×Obj)) from hp) (by simp)⟩
  refine a07 (λn s'=>∃ i H',Inv (cxC X scope xs fr s3.heap.objs.size fp s3 U) [] (List.replicate xs.length none++Mm σ js) H' s'/\tn i s'.heap/\(∀ b∈fp,H' b=none)/\W i n H') ?_ m0 ⟨0,U,I4,a1,λb F=>(a0 b F).1,w0⟩;rintro n s5 ⟨i,H5,I5,aD,a7,w5⟩;rcases aE i n H5 w5 with ⟨stop,qn⟩|⟨go,N,hN,step⟩
  . refine thn (T.done (cxC X scope xs fr s3.heap.objs.size fp s3 U) rfl rfl rfl hc i [] s5 _ H5 (λ_ _=>False) I5 (a4 a7) aD stop) λr s6 ⟨hr,I6⟩=>?_;subst hr;obtain⟨m6,n6,_⟩:=id I6.loc;exact hR p0 s3.heap.objs.size s6 H5 ⟨m6,n6⟩ (I3.fpOk (A0B _) I6.free) (Y6 I3 a0 I6 (Heap.SameBut.refl ..)) qn
  refine thn (T.item (cxC X scope xs fr s3.heap.objs.size fp s3 U) rfl rfl rfl hc i [] s5 _ H5 (λ_ _=>False) I5 (a4 a7) aD go) λr s6 ⟨u,hr,h6⟩=>?_;subst hr;refine thn h6 λ_ s7 ⟨x,H7,I7,r7,y7,a3,aJ⟩=>?_;have aI:=I7.pinned (a4 aJ) (T.obj _ _ a3);refine thn (hg _ _ _ _ _ s7 _ H7 x u _ aI r7 (hk _ _ _ _ (step x H7 y7))) λ_ s8 ⟨σ8,H8,I8,aR,q8⟩=>?_
  have again:∀ {s9:Shared} {Y:Hp},Inv (cxC X scope xs fr s3.heap.objs.size fp s3 U) ([]++Re fp s7.heap) σ8 Y s9->N Y ->
   ∃ m,m<n/\∃ i H',Inv (cxC X scope xs fr s3.heap.objs.size fp s3 U) [] (List.replicate xs.length none++Mm σ js) H' s9/\tn i s9.heap/\(∀ b∈fp,H' b=none)/\W i m H':=fun {s9 Y} Z n9=>by
   obtain⟨m',hm,w9⟩:=hN Y n9;refine⟨m',hm,i+1,Y,Z.unpinned.weak ?_ ?_,T.keep _ _ _ a3 λb F o e=>(Z.pin (b,o) (A1G _ (A1G _ (Ip F e)))).1,λb F=>?_,w9⟩
   . rw[Z.len,I5.len]
   . intro k v a2
     by_cases hx:k<xs.length
     . rw[A1B (by rw[A1R];exact hx),A4E,A0K hx] at a2
       cases a2
     rw[aR k (Nat.le_of_not_lt hx)];exact a2
   obtain ⟨o,e,d⟩:=T.obj _ _ a3 b F;exact(Z.pin (b,o) (A1G _ (A1G _ (Ip F e)))).2.1
  refine A22 (hi _ _ _ _ _ s8 σ8 H8 _ (λ_ _=>False) (λ_ _ z=>z) I8 q8) (λok s9 ⟨Y,Z,q9⟩=>?_) λ_ _ z=>z
  cases ok with
  |false=>rw[A0J A0C];rw[A0J A0C] at q9;exact again Z q9
  |true=>rw[A0K rfl];rw[A0K rfl] at q9;refine thn (he _ _ _ _ _ s9 σ8 Y _ Z q9) λuy aV ⟨y,aF,aG,aU,acc,aK,hz,aS⟩=>?_;refine thn (G3 _ aV σ8 aF (.ref p0) [y] (.ref p0) [uy] (λ_ a5=>N a5) aG rfl (.cons aU .nil) ⟨p0,acc,y,rfl,rfl,aK,hz,aS⟩) λ_ b0 ⟨_,a5,aH,_,aT⟩=>?_;exact again aH aT
 exact codeAny_compStart_list (aC _ I4 a1) (T.self _ _ _ _ _ a1 (aC _ I4 a1))
def Inv.letgo {C:Addr}{F:Heap}(I:Inv X pins σ H s)(f:Uz X pins H C)(hs:Heap.SameBut C s.heap F):Inv X pins σ H {s with heap:=F}:=by obtain⟨O,U,f2,Y,Z,f5⟩:=f;exact I.turned (t':=s.toks) (λb o hb e=>(hs.2 b hb).trans e) O U Y Z f5
theorem As (xs fr:List Str)(js:List Nat)(hc:X.calm=true)(Z:V0 X.env.scope scope xs fr=true)(a0:js.map (λj=>X.N[j]?)=fr.map some)(hw:PI X tg iter wi)
 (hg:∀ C ex s₀ H₀,PG (cxC X scope xs fr C ex s₀ H₀) tg g) (hk:Y4 xs.length g) (hi:∀ C ex s₀ H₀,PIf (cxC X scope xs fr C ex s₀ H₀) ifs tt) (he:∀ C ex s₀ H₀,PE (cxC X scope xs fr C ex s₀ H₀) elt te)
 (hs:∀ x,foldedSetIterable iter X.env x=pure x:=by intro _;ac_nf) :
 PE X (.ListComp elt [⟨tg,iter,ifs,0⟩] scope pos) (aj8 xs.length js wi g tt te):=by
 intro pins s σ H Q I h;have S:=Ui Z;rw[eval_ListComp];refine wpAny_comprehension_free (use:=none) rfl hs (Ob (S.cells I.ok)) S.kind S.names ?_;refine thn (hw pins s σ H _ I h) λv s1 h1=>thn h1 λa4 s2 h2=>?_;obtain⟨it,fp,tn,J,H2,e,F,T,a2,O,q2⟩:=h2;subst e;refine Uk (Q:=Q) (R:=λacc C=>compPost (model X.prog X.w) X.A X.xe none (EP X pins σ Q) acc C) hc S a0 hg hk hi he F T a2 O q2 ?_;intro p C s' H' ⟨m,hn⟩ U Y q;exact⟨m,hn,λa3 a1=>⟨.ref p,H',Y.letgo U a1,rfl,q⟩⟩
theorem C0 {Y F:Pos}(xs fr:List Str)(js:List Nat)(hc:X.calm=true)(hS:V0 X.env.scope scope xs fr=true)(a2:js.map (λj=>X.N[j]?)=fr.map some)
 (hN:X.N.Nodup) (a1:X.N[i]? = some y) (U:X.env.scope.names.lookup y=some .local) (hw:PI X tg iter wi)
 (hg:∀ C ex s₀ H₀,PG (cxC X scope xs fr C ex s₀ H₀) tg g) (hk:Y4 xs.length g) (hi:∀ C ex s₀ H₀,PIf (cxC X scope xs fr C ex s₀ H₀) ifs tt) (he:∀ C ex s₀ H₀,PE (cxC X scope xs fr C ex s₀ H₀) elt te)
 (a6:swapsWith (.ListComp elt [⟨tg,iter,ifs,0⟩] scope pos) (some (.Name y F)) Y.line X.env=pure true:=by ac_nf)
 (hs:∀ x,foldedSetIterable iter X.env x=pure x:=by intro _;ac_nf) :
 PS X (.Assign [.Name y F] (.ListComp elt [⟨tg,iter,ifs,0⟩] scope pos) Y) (ao3 (aj8 xs.length js wi g tt te) (Ht i)):=by
 intro pins s σ H D I h;have S:=Ui hS;rw[exec_Assign_Name_used _ _ _ _ a6];refine A02 (A59 (A02 ?_));show wpAny _ X.A (do let _ <- comprehension (.ListComp elt [⟨tg,iter,ifs,0⟩] scope pos) scope X.env _ (newList []) false (eval iter X.env) (some (assign (.Name y F) X.env))) _ _ s
 refine A02 (A22 (wpAny_comprehension_free (use:=some (assign (.Name y F) X.env)) (Q:=λ_ s'=>SP X pins D .next s') rfl hs (Ob (S.cells I.ok)) S.kind S.names ?_) (λ_ s' hq=>A07 (A07 hq)) λ_ _ e=>e);refine thn (hw pins s σ H _ I h) λv s1 h1=>thn h1 λa9 s2 h2=>?_;obtain⟨it,fp,tn,J,H2,e,I2,T,a7,f2,q2⟩:=h2;subst e;refine Uk (Q:=λx H1=>Ht i x σ H1 D.nx) (R:=λacc C=>compPost (model X.prog X.w) X.A X.xe (some (assign (.Name y F) X.env)) (λ_ s'=>SP X pins D .next s') acc C) hc S a2 hg hk hi he I2 T a7 f2 q2 ?_;intro p C s' H' ⟨m,hn⟩ O Z q;show wpAny _ X.A (assign (.Name y F) X.env (.ref p)) _ _ s';refine wpAny_assign_Name (Qi Z hN a1 (.inl U) (show RelV (.ref p) (.ref p) from rfl) (λaA a0 ⟨a,a5,ha⟩=>?_) (.inr U))
 have a3:C≠a:=by
  rcases ha with ha|ha
  . rw[ha];exact O.2.1
  exact(O.2.2.2.2.1 y a ha).symm
 exact⟨m,hn.sameBut a5 a3,λa8 a4=>⟨_,H',a0.letgo O a4,q⟩⟩
end
def Its (x:Str):It:=⟨λi _=>i<x.cps.size,λi H v H'=>H'=H/\∃ c,x.cps[i]? = some c/\v = .str ⟨#[c]⟩,λi _=>x.cps.size<=i⟩
theorem Yi {w:World}{K:PySem.W.Frag}{it:Addr}{n:Nat}{PV:Nat->Value->Prop}{val:Nat->V->Prop}{St:Nat->Heap->Prop}(W:∀ A:Around,A.handled=none->Walks P w A it [it] [it] n PV St)
 (a2:∀(A:Around) (i:Nat) (s:Shared) (Q:Value->Shared->Prop) (E:Value->Shared->Prop),St i s.heap->Q (.ref it) s->wpAny (model P w) A (pyIter (.ref it)) Q E s)
 (hv:∀ i u,PV i u->∃ v,RelV v u/\val i v) (a0:∀ i h,St i h->∃ o T vs,h.get? it=some o/\o.cls = .type T/\o.data = .fields vs/\["enumerate","zip","dict_itemiterator","dict_reverseitemiterator","odict_iterator","itertools.zip_longest","itertools.pairwise"].contains T=false) :
 Xu P w K tg ⟨λi _=>i<n,λi H v H'=>H'=H/\val i v,λi _=>n<=i⟩ [it] it (λi h=>St i h/\i<=n) where
 mem:=by simp
 obj:=λi h st b F=>by
  have e:b=it:=by simpa using F
  subst e;obtain⟨o,T,vs,U,e2,Y,e4⟩:=a0 i h st.1;exact⟨o,U,λv z=>by rw[Y] at z;cases z⟩
 keep:=λi h h' st k=>⟨(W {handled:=none} rfl).frame i h h' st.1 k,st.2⟩
 item:=by
  intro X hP hw hK hc i pins s σ H E I hf st O;subst hP hw hK;obtain⟨Z,f1,f2,f3,f4,f5⟩:=hf it (by simp);refine(W X.A (I.ok.hd hc)).item i s _ _ O st.1 λu h' tk hp a1 kk=>?_;obtain⟨v,rv,vv⟩:=hv i u hp;have I1:Inv X pins σ H {s with heap:=h',toks:=tk}:=I.turned (λb o F e=>kk b o (by simpa using F) e) Z f1 f3 f4 f5
  obtain⟨o,T,vs,U,e2,Y,e4⟩:=a0 _ _ a1;exact⟨u,rfl,Zu (s:={s with heap:=h',toks:=tk}) U e2 Y e4 ⟨v,H,I1,rv,⟨rfl,vv⟩,⟨a1,O⟩,λb F=>(hf b F).1⟩⟩
 done:=by intro X hP hw hK hc i pins s σ H E I hf st O;subst hP hw hK;obtain⟨Z,f1,f2,f3,f4,f5⟩:=hf it (by simp);have e:i=n:=A3F st.2 O;subst e;exact(W X.A (I.ok.hd hc)).done s _ _ st.1 λh' tk kk=>⟨rfl,I.turned (λb o F e=>kk b o (by simpa using F) e) Z f1 f3 f4 f5⟩
 self:=λA i s Q E st h=>a2 A i s Q E st.1 h
theorem ar6 {σ:St}{F:Shared}{R:It->Hp->Prop}{v:Value}(U:Inv X pins σ H1 F)(r1:RelV (.str z) v)(q:R (Its z) H1):wpAny (model X.prog X.w) X.A (pyIter v) (PIE X pins σ tg R) E F:=by
 obtain⟨t,rfl⟩:=r1;have sv:∀ i u,SignAt z i u->∃ v,RelV v u/\∃ c,z.cps[i]? = some c/\v = .str ⟨#[c]⟩:=λi u ⟨c,tu,O,hu⟩=>⟨.str ⟨#[c]⟩,⟨tu,hu⟩,c,O,rfl⟩
 have a0:∀(o:Obj) (St:Nat->Heap->Prop) (n:Nat),St 0 (F.heap.push o)->Xu X.prog X.w X.K tg (Its z) [F.heap.objs.size] F.heap.objs.size (λi h=>St i h/\i<=z.cps.size)->PIE X pins σ tg R (.ref F.heap.objs.size) {F with heap:=F.heap.push o}:=λo St n h0 T=>by
  refine⟨F.heap.objs.size,[F.heap.objs.size],_,_,H1,rfl,U.kept (t':=F.toks) λb ob e=>A04 _ e,T,⟨h0,A1W _⟩,λb hb=>?_,q⟩;have e:b=F.heap.objs.size:=by simpa using hb
  subst e;exact U.fpOk (A0B _) (U.hok.fresh (A0B _))
 cases ha:z.cps.all (· < 128)
 . exact wpAny_pyIter_wide ha (a0 _ _ 0 ⟨_,A0F _ rfl,rfl,rfl⟩ (Yi (λA Y=>Walks.strWide Y _ z t) (λ_ _ _ _ _ st hq=>wpAny_pyIter_striter_wide st hq) sv λi h ⟨o,Z,O,hd⟩=>⟨o,_,_,Z,O,hd,by decide⟩))
 exact wpAny_pyIter_ascii ha (a0 _ _ 0 ⟨_,A0F _ rfl,rfl,rfl⟩ (Yi (λA Y=>Walks.strAscii Y _ z t) (λ_ _ _ _ _ st hq=>wpAny_pyIter_striter_ascii st hq) sv λi h ⟨o,Z,O,hd⟩=>⟨o,_,_,Z,O,hd,by decide⟩))
def aH1:V->Option Int->Option Int->Hp->VK->Prop:=λx lo hi H Q=>∃ z,x = .str z/\z.length<=sizeLine/\Q (.str (Txt.slice z lo hi)) H
theorem sl_str:SlR X aH1:=by
 intro pins s σ H x v vl vu lo hi sl Q I Z hs Y U h;obtain⟨z,rfl,hz,q⟩:=h;obtain⟨t,rfl⟩:=Z;have O:∀ t' k,EP X pins σ Q (.str (Txt.slice z lo hi) t') {s with toks:=k}:=λt' k=>⟨.str _,H,I.tok _,⟨_,rfl⟩,q⟩
 have sz:=A0M (Txt.slice_le z lo hi) hz;refine⟨"str",_,F.slot_str_getitem.lookup,typeIs_str _ _ _,?_⟩
 cases Y with
 |none=>
   cases U with
   |none=>exact A3G (l:=none) (u:=none) (st:=none) hs rfl (A4P ⟨sz,O⟩)
   |int j uj=>exact A3G (l:=none) (u:=some (j,uj)) (st:=none) hs rfl (A4P ⟨sz,O⟩)
 |int i ui=>
   cases U with
   |none=>exact A3G (l:=some (i,ui)) (u:=none) (st:=none) hs rfl (A4P ⟨sz,O⟩)
   |int j uj=>exact A3G (l:=some (i,ui)) (u:=some (j,uj)) (st:=none) hs rfl (A4P ⟨sz,O⟩)
theorem Te:∀ {ys:List Str} {us:List Value},Vals (ys.map V.str) us->StrsAre us ys
 | [],_,.nil=>.nil
 |y :: ys,_,.cons r t=>by obtain⟨tk,rfl⟩:=r;exact .cons y tk (Te t)
def Vr:CallR X (.builtin "repr") (λxs H Q=>(∃ b,xs=[.bl b]/\Q (.str (if b then "True" else "False")) H)\/(xs=[.non]/\Q (.str "None") H)):=by
 intro pins s σ H xs us Q I r h;rcases h with ⟨b,rfl,q⟩|⟨rfl,q⟩
 . obtain⟨u,rfl,ru⟩:=Jq r
   cases ru;exact PySem.P.repr_of_bool ⟨.str _,H,I.tok _,⟨_,rfl⟩,q⟩
 obtain⟨u,rfl,ru⟩:=Jq r
 cases ru;exact PySem.P.repr_of_none ⟨.str _,H,I.tok _,⟨_,rfl⟩,q⟩
def call_isinst:CallR X (.builtin "isinstance") (λxs H Q=>∃ x c t b,xs=[x,.ty c]/\TyOf X.K H x t/\W.kitOne X.K t (.type c)=some b/\Q (.bl b) H):=by
 intro pins s σ H xs us Q I r h;obtain⟨x,c,t,b,rfl,ty,e,q⟩:=h;obtain⟨u,U,rfl,F,O⟩:=Sw r
 cases O;exact Sj I F ty e λtk=>⟨.bl _,H,I.tok _,rfl,q⟩
def call_isinstR:CallR X (.builtin "isinstance") (λxs H Q=>∃ x c t b,xs=[x,.ref c]/\TyOf X.K H x t/\W.kitOne X.K t (.ref c)=some b/\Q (.bl b) H):=by
 intro pins s σ H xs us Q I r h;obtain⟨x,c,t,b,rfl,ty,e,q⟩:=h;obtain⟨u,U,rfl,F,O⟩:=Sw r
 cases O;exact Sj I F ty e λtk=>⟨.bl _,H,I.tok _,rfl,q⟩
theorem Rf:CallR X (.builtin "isinstance") (λxs H Q=>∃ a ys c b,xs=[V.ref a,.ty c]/\((SqT X.K H a ys/\W.kitOne X.K (.type "tuple") (.type c)=some b)\/(SqL X.K H a ys/\W.kitOne X.K (.type "list") (.type c)=some b))/\Q (.bl b) H):=by
 intro pins s σ H xs us Q I r h;obtain⟨a,ys,c,b,rfl,ty,q⟩:=h;obtain⟨u,Y,rfl,O,U⟩:=Sw r
 cases U
 cases O;rcases ty with ⟨ty,e⟩|⟨ty,e⟩
 . obtain⟨F,_,p,_⟩:=I.tuple ty;obtain⟨o,h1,h2,_⟩:=p;exact A1F W.kitx_tuple I.kIn ⟨o,h1,h2⟩ e (λz=>nomatch z) λtk=>⟨.bl _,H,I.tok _,rfl,q⟩
 obtain⟨F,_,p,_⟩:=I.list ty;obtain⟨o,h1,h2,_⟩:=p.isList;exact A1F W.kitx_list I.kIn ⟨o,h1,h2⟩ e (λz=>nomatch z) λtk=>⟨.bl _,H,I.tok _,rfl,q⟩
def Va {bs:List Bool}{F:List Value}(r:Vals (bs.map V.bl) F)(i:Nat)(v:Value)(h:F[i]? = some v):∃ b,bs[i]? = some b/\v = .bool b:=by
 have hl:=r.length;have hi:i<F.length:=(A03.mp h).1;have O:i<bs.length:=by rw[A01] at hl;omega
 obtain⟨u,hu,ru⟩:=r.get (i:=i) (x:=.bl bs[i]) (by rw[A06,A00 O];rfl);rw[h] at hu
 cases hu;exact⟨bs[i],A00 O,ru⟩
def Zn (bs:List Bool):(List.range bs.length).all (λi=>(bs[i]?).getD false)=bs.all id:=by
 rw[A15,A0L,A0L];constructor
 . intro h b F;obtain⟨i,hi,e⟩:=List.mem_iff_getElem.mp F;have:=h i (A28.mpr hi);rw[A00 hi] at this;rw[<- e];exact this
 intro h i hi;rw[A00 (A28.mp hi)];exact h _ (List.getElem_mem _)
def Xp (bs:List Bool):(List.range bs.length).any (λi=>(bs[i]?).getD false)=bs.any id:=by
 rw[A15,A2U,A2U];constructor
 . rintro⟨i,hi,h⟩;rw[A00 (A28.mp hi)] at h;exact⟨_,List.getElem_mem _,h⟩
 rintro⟨b,F,h⟩;obtain⟨i,hi,e⟩:=List.mem_iff_getElem.mp F;refine⟨i,A28.mpr hi,?_⟩;rw[A00 hi,e];exact h
theorem a75 (hc:X.calm=true):CallR X (.builtin "all") (λxs H Q=>∃(a:Addr) (bs:List Bool),xs=[.ref a]/\SqL X.K H a (bs.map V.bl)/\Q (.bl (bs.all id)) H):=by
 intro pins s σ H xs us Q I r h;obtain⟨a,bs,rfl,hl,q⟩:=h;obtain⟨u,rfl,ru⟩:=Jq r
 cases ru;obtain⟨U,Y,O,hz⟩:=I.list hl;have a0:=Y.length;have a1:a≠s.heap.objs.size:=by obtain⟨o,n,ho,_⟩:=O;exact A0N (A09 ho)
 refine call_all_walk (A2A O.isList ?_);refine⟨_,_,_,_,_,_,λi=>(bs[i]?).getD false,rfl,Walks.list (A:=X.A.in1) (I.ok.hd hc) _ a a1 U.toArray,⟨⟨_,A0F _ rfl,rfl,rfl⟩,O.isList.at λo e=>A04 _ e⟩,λi v s' Q' E' hp F=>?_,λh' tk hk=>?_⟩
 . obtain⟨b,hb,rfl⟩:=Va Y i v (by simpa using hp);dsimp only at F;rw[hb] at F;exact A1Q F
 refine⟨.bl _,H,I.kept (t':=tk) λb ob e=>hk b ob (λhm=>absurd (Heap.lt_size e) (by rw[show b=s.heap.objs.size by simpa using hm];exact Nat.lt_irrefl _)) (Heap.get?_push_of_some _ e),?_,q⟩;have Z:U.toArray.size=bs.length:=by rw[A0E,<- a0,A01]
 rw[Z,Zn];rfl
theorem a52 (hc:X.calm=true):CallR X (.builtin "any") (λxs H Q=>∃(a:Addr) (bs:List Bool),xs=[.ref a]/\SqL X.K H a (bs.map V.bl)/\Q (.bl (bs.any id)) H):=by
 intro pins s σ H xs us Q I r h;obtain⟨a,bs,rfl,hl,q⟩:=h;obtain⟨u,rfl,ru⟩:=Jq r
 cases ru;obtain⟨U,Y,O,hz⟩:=I.list hl;have a0:=Y.length;have a1:a≠s.heap.objs.size:=by obtain⟨o,n,ho,_⟩:=O;exact A0N (A09 ho)
 refine call_any_walk (A2A O.isList ?_);refine⟨_,_,_,_,_,_,λi=>(bs[i]?).getD false,rfl,Walks.list (A:=X.A.in1) (I.ok.hd hc) _ a a1 U.toArray,⟨⟨_,A0F _ rfl,rfl,rfl⟩,O.isList.at λo e=>A04 _ e⟩,λi v s' Q' E' hp F=>?_,λh' tk hk=>?_⟩
 . obtain⟨b,hb,rfl⟩:=Va Y i v (by simpa using hp);dsimp only at F;rw[hb] at F;exact A1Q F
 refine⟨.bl _,H,I.kept (t':=tk) λb ob e=>hk b ob (λhm=>absurd (Heap.lt_size e) (by rw[show b=s.heap.objs.size by simpa using hm];exact Nat.lt_irrefl _)) (Heap.get?_push_of_some _ e),?_,q⟩;have Z:U.toArray.size=bs.length:=by rw[A0E,<- a0,A01]
 rw[Z,Xp];rfl
def Kv (F:Gl X x)(hm:∃ u,X.mg x=some u/\RelV v u)(hd:(x==("__debug__":Str))=false:=by decide):PE X (.Name x pos) (tC v):=by obtain⟨u,h1,h2⟩:=hm;exact aj2 F h1 h2 hd
section
variable {K:W.Frag}
def at3 (K:W.Frag):R2:=λx y H Q=>∃ a b ys,x = .ref a/\y = .ref b/\SqT K H a []/\SqT K H b ys/\Q (.ref b) H
def am3:OpR X (binaryOp .Add) (at3 X.K):=by
 intro pins s σ H x y v u Q I rx ry h;obtain⟨a,b,ys,rfl,rfl,ha,hb,q⟩:=h
 cases rx
 cases ry;obtain⟨a4,r1,p1,_⟩:=I.tuple ha;obtain⟨a5,r2,p2,_⟩:=I.tuple hb
 cases r1;obtain⟨⟨cls,dd,data,sl⟩,Z,O,n,hd⟩:=id p1;obtain⟨⟨a3,a1,data2,a2⟩,a0,U,n2,Y⟩:=id p2;simp only at O hd U Y;subst O hd U Y;exact concat_meets ⟨_,Z,rfl⟩ ⟨_,a0,rfl⟩ noFill_tuple_add seq_tuple_add PySem.F.slot_tuple_add PySem.F.entry_tuple_add (PySem.F.args_tuple_add_2 _ _) (tuple_addW0 a b _ _ n n2 dd a1 sl a2 (by simp)) ⟨Z,a0,⟨.ref b,H,I,rfl,q⟩⟩
def aG9 (K:W.Frag):V->Option Int->Option Int->Hp->VK->Prop:=λx lo hi H Q=>∃ a xs,x = .ref a/\SqT K H a xs/\(HT.sIx xs.length 0 lo=0/\HT.sIx xs.length xs.length hi=xs.length)/\Q (.ref a) H
theorem a42:SlR X (aG9 X.K):=by
 intro pins s σ H x v vl vu lo hi sl Q I rx hs pl pu h;obtain⟨a,xs,rfl,hx,hw,q⟩:=h
 cases rx;obtain⟨F,r,O,hz⟩:=I.tuple hx;have a0:F.toArray.size=xs.length:=by rw[A0E];exact r.length.symm
 refine⟨"tuple",_,PyProof.Rows.slot_tuple_getitem.lookup,O.typeIs,?_⟩;obtain⟨os,a1,Z,a3⟩:=id hs;have Y:s.TypeIs (.ref sl) "slice":=⟨os,a1,Z⟩;unfold getItem
 try with_reducible refine A19 ?_
 first | refine A02 (A07 ?_) | skip
 refine A02 (wpAny_sequenceKey O.typeIs ∅ ?_);refine A02 (A25 (name:=Str.ofString "__getitem__") O.typeIs A2I (A24 A2I O.typeIs entry_tuple_getitem ?_ (args_tuple_getitem _ _)));refine A02 (m:=Builtin.Tuple.tupleItemsOf (.ref a)) (tupleItemsOf_ O ?_);refine A02 (A4M Y ?_);rw[A0K ∅];refine A02 (HT.sliceApplied_gen hs pl pu ?_)
 have a2:(((HT.sIx F.toArray.size 0 lo:Nat):Int)==0&&(1:Int)==1&&(HT.sIx F.toArray.size F.toArray.size hi-HT.sIx F.toArray.size 0 lo)==F.toArray.size)=true:=by rw[a0,hw.1,hw.2];simp
 show wpAny _ _ (if(((HT.sIx F.toArray.size 0 lo:Nat):Int)==0&&(1:Int)==1&&(HT.sIx F.toArray.size F.toArray.size hi-HT.sIx F.toArray.size 0 lo)==F.toArray.size)=true then _ else _) _ _ s
 rw[A0K a2];have U:∀ s',s'=s->EP X pins σ Q (.ref a) s':=λs' e=>by subst e;exact⟨.ref a,H,I,rfl,q⟩
 unfold Builtin.Tuple.tupleIsExact;obtain⟨hp,g,d,tk,os⟩:=s;have hT:=O.typeIs
 repeat (any_goals (first | assumption | wp_step))
 exact⟨_,rfl,A07 (U _ rfl)⟩
end
theorem Inv.freeze {σ:St}{o:Obj}(I:Inv X pins σ H s)(hd:H d=some (.dK kvs))(ho:s.heap.get? d=some o):Inv X pins σ (upd H d (.frz o (.dK kvs))) s:=by
 have O:∀ b,H b=none->upd H d (.frz o (.dK kvs)) b=none:=λb h=>by rw[Ay (Ne.symm (ne_of_none hd h))];exact h
 have F:∀ b u,H b=some u->u ≠ .dK kvs->upd H d (.frz o (.dK kvs)) b=some u:=λb u h q=>by rw[Ay (ne_of h hd q)];exact h
 refine⟨I.ok,I.os,I.bare,⟨I.base.keep,I.base.slot,λb U q n hx=>O b (I.base.free b U q n hx),I.base.there,λb xs q=>F b _ (I.base.tups b xs q) (by intro z;cases z),λb U u q=>F b _ (I.base.frzs b U u q) (by intro z;cases z),λb ps q=>?_⟩,I.loc,I.cell,O _ I.free,λx c q=>O _ (I.freeC x c q),λp hp=>?_,λb u q=>?_,I.len⟩
 . obtain⟨more,h⟩:=I.base.tbls b ps q;exact⟨more,F b _ h (by intro z;cases z)⟩
 . obtain⟨Y,Z,a3⟩:=I.pin p hp;exact⟨Y,O _ Z,a3⟩
 by_cases e:b=d
 . subst e;rw[Aj] at q
   cases q;exact⟨ho,(I.hok b _ hd).stay (λc v hc z=>z) (λc z=>F c _ z (by intro w;cases w)) λc xs z=>F c _ z (by intro w;cases w)⟩
 rw[Ay e] at q;exact(I.hok b u q).stay (λc v hc z=>z) (λc z=>F c _ z (by intro w;cases w)) λc xs z=>F c _ z (by intro w;cases w)
def Itd (a:Addr)(o:Obj)(kvs:List (Key×V)):It:=
 ⟨λi H=>H a=some (.frz o (.dK kvs))/\i<kvs.length,λi H x H'=>H'=H/\∃ kv,kvs[i]? = some kv/\x=kV kv.1,λi H=>H a=some (.frz o (.dK kvs))/\kvs.length<=i⟩
def aj7 {k:Key}{u:Value}(h:Oy k u=true):RelV (kV k) u:=by
 rcases Bx h with ⟨i,t,rfl,rfl⟩|⟨x,t,rfl,rfl⟩
 . exact⟨t,rfl⟩
 exact⟨t,rfl⟩
def a08 {σ:St}{o:Obj}{es:Array DictEntry}{F:Nat}(I:Inv X pins σ H s)(h:H a=some (.frz o (.dK kvs)))(O:o.data = .dict es F):∃ vs,KV kvs vs/\s.heap.DictAt (Ax X.prog X.w) a vs F:=by
 obtain⟨h1,_,_,vs,r,o',Y,U,h2,c,hd,rest⟩:=I.hok a _ h;rw[h1] at h2
 cases h2;rw[O] at hd
 cases hd;exact⟨vs,r,o,es,h1,c,O,rest⟩
theorem KV.get:∀ {kvs:List (Key×V)} {vs:List (Key×Value)} {i:Nat} {kv:Key×V},KV kvs vs->kvs[i]? = some kv->∃ u,vs[i]? = some (kv.1,u)/\RelV kv.2 u
 |_,_,_,_,.nil,e=>by simp at e
 |_,_,0,kv,.cons r _,e=>by simp at e;subst e;exact⟨_,congrArg some (Prod.ext r.1.symm rfl),r.2⟩
 |_,_,i+1,kv,.cons _ t,e=>by obtain⟨u,h1,h2⟩:=KV.get (i:=i) t (by simpa using e);exact⟨u,by simpa using h1,h2⟩
theorem Qm {w:World}{K:W.Frag}(a it:Addr)(o:Obj)(kvs:List (Key×V))(es:Array DictEntry)(ep:Nat)(hd:o.data = .dict es ep):Xu P w K tg (Itd a o kvs) [it] it (λi h=>h.IsKeyIter it a i kvs.length ep) where
 mem:=by simp
 obj:=λi h st b F=>by
  have e:b=it:=by simpa using F
  subst e;obtain⟨o,e,c,d⟩:=st;exact⟨o,e,λv z=>by rw[d] at z;cases z⟩
 keep:=λi h h' st k=>st.at λo e=>k it (by simp) o e
 item:=by
  intro X hP hw hK hc i pins s σ H E I hf st hg;subst hP hw hK;obtain⟨hH,hi⟩:=hg;obtain⟨vs,O,a0⟩:=a08 I hH hd;have hl:kvs.length=vs.length:=A3D O;obtain⟨kv,hkv⟩:∃ kv,kvs[i]? = some kv:=⟨kvs[i],A00 hi⟩;obtain⟨u,hu,_⟩:=KV.get O hkv;obtain⟨U,Y,f2,Z,f4,f5⟩:=hf it (by simp);rw[hl] at st;refine wpAny_pyNext_dict_item st a0 hu λa4 h' a2 a1 a3=>?_;have I1:Inv X pins σ H {s with heap:=h'}:=I.turned (t':=s.toks) (λb o F e=>(a3.2 b F).trans e) U Y Z f4 f5
  obtain⟨o',e,c,d⟩:=id a1;exact⟨a4,rfl,Zu (s:={s with heap:=h'}) e c d ∅ ⟨kV kv.1,H,I1,aj7 a2,⟨rfl,kv,hkv,rfl⟩,by rw[hl];exact a1,λb F=>(hf b F).1⟩⟩
 done:=by intro X hP hw hK hc i pins s σ H E I hf st hg;subst hP hw hK;obtain⟨hH,hi⟩:=hg;obtain⟨vs,O,a0⟩:=a08 I hH hd;have hl:kvs.length=vs.length:=A3D O;obtain⟨U,Y,f2,Z,f4,f5⟩:=hf it (by simp);rw[hl] at st;exact wpAny_pyNext_dict_end (I.ok.hd hc) st a0 (A31 (by omega)) λh' eb=>⟨rfl,I.turned (t':=s.toks) (λb o F e=>eb b o F e) U Y Z f4 f5⟩
 self:=λA i s Q E st hQ=>wpAny_pyIter_keyiter st hQ
theorem af4 {σ:St}{R:It->Hp->Prop}(I:Inv X pins σ H s)(h:H a=some (.dK kvs))(q:∀ o,R (Itd a o kvs) (upd H a (.frz o (.dK kvs)))) :
 wpAny (model X.prog X.w) X.A (pyIter (.ref a)) (PIE X pins σ tg R) E s:=by
 obtain⟨_,hs,vs,Z,o,es,U,O,c,hd,rest⟩:=I.hok a _ h;have F:=I.freeze h O;have hl:kvs.length=vs.length:=A3D Z;refine wpAny_pyIter_dict (knd:=Ax X.prog X.w) hs ⟨o,es,O,c,hd,rest⟩ ?_;rw[<- hl];refine⟨s.heap.objs.size,[s.heap.objs.size],_,_,_,rfl,F.kept (t':=s.toks) λb o e=>A04 _ e,Qm a _ o kvs es U hd,⟨_,A0F _ rfl,rfl,rfl⟩,λb Y=>?_,q o⟩;have e:b=s.heap.objs.size:=by simpa using Y
 subst e;exact F.fpOk (A0B _) (F.hok.fresh (A0B _))
theorem a35 {σ:St}{o:Obj}{R:It->Hp->Prop}(I:Inv X pins σ H s)(h:H a=some (.frz o (.dK kvs)))(q:R (Itd a o kvs) H) :
 wpAny (model X.prog X.w) X.A (pyIter (.ref a)) (PIE X pins σ tg R) E s:=by
 obtain⟨O,_,hs,vs,Z,o',es,U,F,c,hd,rest⟩:=I.hok a _ h;rw[O] at F
 cases F;have hl:kvs.length=vs.length:=A3D Z;refine wpAny_pyIter_dict (knd:=Ax X.prog X.w) hs ⟨o,es,O,c,hd,rest⟩ ?_;rw[<- hl];refine⟨s.heap.objs.size,[s.heap.objs.size],_,_,_,rfl,I.kept (t':=s.toks) λb o e=>A04 _ e,Qm a _ o kvs es U hd,⟨_,A0F _ rfl,rfl,rfl⟩,λb Y=>?_,q⟩;have e:b=s.heap.objs.size:=by simpa using Y
 subst e;exact I.fpOk (A0B _) (I.hok.fresh (A0B _))
def Same.seqT {K:W.Frag}(e:Same H H')(h:SqT K H a xs):SqT K H' a xs:=by
 rcases h with (h|⟨o,h⟩)|h
 . exact .inl (.inl (e _ _ h))
 . exact .inl (.inr ⟨o,e _ _ h⟩)
 exact .inr h
mutual
def Is (K:W.Frag)(H:Hp):PyData->V->Prop
 |.none,v=>v = .non
 |.bool b,v=>v = .bl b
 |.int i,v=>v = .int i
 |.str x,v=>v = .str x
 |.list ds,v=>∃ a xs,v = .ref a/\SqL K H a xs/\IsL K H ds xs
 |.tuple ds,v=>∃ a xs,v = .ref a/\SqT K H a xs/\IsL K H ds xs
 |.dict _,_=>False
def IsL (K:W.Frag)(H:Hp):List PyData->List V->Prop
 | [],vs=>vs=[]
 |d :: ds,vs=>∃ v r,vs=v :: r/\Is K H d v/\IsL K H ds r
end
mutual
theorem Is.mono {K:W.Frag}{H H':Hp}(e:Same H H'):∀(d:PyData) (v:V),Is K H d v->Is K H' d v
 |.none,_,h=>by simp only[Is] at h ⊢;exact h
 |.bool _,_,h=>by simp only[Is] at h ⊢;exact h
 |.int _,_,h=>by simp only[Is] at h ⊢;exact h
 |.str _,_,h=>by simp only[Is] at h ⊢;exact h
 |.list ds,v,h=>by simp only[Is] at h ⊢;obtain⟨a,xs,F,O,U⟩:=h;exact⟨a,xs,F,e.seq O,IsL.mono e ds xs U⟩
 |.tuple ds,v,h=>by simp only[Is] at h ⊢;obtain⟨a,xs,F,O,U⟩:=h;exact⟨a,xs,F,e.seqT O,IsL.mono e ds xs U⟩
 |.dict _,_,h=>by simp only[Is] at h
theorem IsL.mono {K:W.Frag}{H H':Hp}(e:Same H H'):∀(ds:List PyData) (vs:List V),IsL K H ds vs->IsL K H' ds vs
 | [],_,h=>by simp only[IsL] at h ⊢;exact h
 |d :: ds,vs,h=>by simp only[IsL] at h ⊢;obtain⟨v,r,F,O,U⟩:=h;exact⟨v,r,F,Is.mono e d v O,IsL.mono e ds r U⟩
end
section
variable {σ:St}
mutual
theorem Is.reads (I:Inv X pins σ H s):∀(d:PyData) (v:V) (u:Value),Is X.K H d v->RelV v u->∃ as,Reads s.heap u d as
 |.none,v,u,i,r=>by
   simp only[Is] at i;subst i
   cases r;exact⟨_,.none⟩
 |.bool b,v,u,i,r=>by
   simp only[Is] at i;subst i
   cases r;exact⟨_,.bool b⟩
 |.int n,v,u,i,r=>by simp only[Is] at i;subst i;obtain⟨t,rfl⟩:=r;exact⟨_,.int n t⟩
 |.str x,v,u,i,r=>by simp only[Is] at i;subst i;obtain⟨t,rfl⟩:=r;exact⟨_,.str x t⟩
 |.list ds,v,u,i,r=>by
   simp only[Is] at i;obtain⟨a,xs,rfl,F,O⟩:=i
   cases r;obtain⟨Y,rv,⟨o,n,e,U,hd,hs⟩,_⟩:=I.list F;obtain⟨as,Z⟩:=IsL.reads I ds xs Y O rv;exact⟨_,.list e U hs (by simpa using Z)⟩
 |.tuple ds,v,u,i,r=>by
   simp only[Is] at i;obtain⟨a,xs,rfl,F,O⟩:=i
   cases r;obtain⟨Y,rv,⟨o,e,U,n,hd⟩,_⟩:=I.tuple F;obtain⟨as,Z⟩:=IsL.reads I ds xs Y O rv;exact⟨_,.tuple e U hd (by simpa using Z)⟩
 |.dict _,_,_,i,_=>by simp only[Is] at i
theorem IsL.reads (I:Inv X pins σ H s):∀(ds:List PyData) (vs:List V) (us:List Value),IsL X.K H ds vs->Vals vs us->∃ as,ReadsAll s.heap us ds as
 | [],vs,us,i,r=>by
   simp only[IsL] at i;subst i
   cases r;exact⟨_,.nil⟩
 |d :: ds,vs,us,i,r=>by
   simp only[IsL] at i;obtain⟨v,U,rfl,F,O⟩:=i
   cases r with
   |cons r1 r2=>obtain⟨Y,h1⟩:=Is.reads I d v _ F r1;obtain⟨Z,h2⟩:=IsL.reads I ds U _ O r2;exact⟨_,.cons h1 h2⟩
end
end
theorem Jz {K:W.Frag}{H:Hp}:∀ ns:List Int,IsL K H (ns.map PyData.int) (ns.map V.int)
 | []=>by simp only[List.map_nil,IsL]
 |n :: r=>by simp only[List.map_cons,IsL];exact⟨_,_,rfl,by simp only[Is],Jz r⟩
theorem Pe {K:W.Frag}{H:Hp}:∀ ns:List Str,IsL K H (ns.map PyData.str) (ns.map V.str)
 | []=>by simp only[List.map_nil,IsL]
 |n :: r=>by simp only[List.map_cons,IsL];exact⟨_,_,rfl,by simp only[Is],Pe r⟩
def U1 {K:W.Frag}{ns:List Int}(h:SqL K H a (ns.map V.int)):Is K H (.list (ns.map PyData.int)) (.ref a):=by simp only[Is];exact⟨a,_,rfl,h,Jz ns⟩
structure QA (A:Around):Prop where
 un:A.units+150<cLine
 gd:A.guards=some []
def Bg {A:Around}{k:Nat}(F:Room k A):QA A:=⟨by have:=F.un;omega,F.gd⟩
def Wq (K:W.Frag):R2:=λx y H Q=>(∃ i j,x = .int i/\y = .int j/\Q (.int (i+j)) H)\/(∃ i j,x = .str i/\y = .str j/\i.length+j.length<=sizeLine/\Q (.str (i++j)) H)\/aH3 x y H Q\/av2 K x y H Q\/at3 K x y H Q
def ae1:OpR X (binaryOp .Add) (Wq X.K):=op_add.or (op_add_str.or (op_cat.or (op_catT.or am3)))
def ao1:R2:=λx y H Q=>(∃ i j,x = .int i/\y = .int j/\CMul i j/\Q (.int (i*j)) H)\/aF8 x y H Q
def op_mulA:OpR X (binaryOp .Mult) ao1:=op_mul.or ay2
def Mb:OpR X (binaryOp .FloorDiv) (rI aF3 λi j=>.int (i / j)):=aj0
def aB3 (K:W.Frag)(F:Bool):R2:=λx y H Q=>∃ dx dy,Is K H dx x/\Is K H dy y/\SeqAt.shaped dx=true/\SeqAt.shaped dy=true/\Q (.bl (if F then !PyData.eqv dx dy else PyData.eqv dx dy)) H
def ax9 (F:QA X.A):OpR X (compareOp .Eq) (aB3 X.K false):=by intro pins s σ H x y v u Q I rx ry h;obtain⟨dx,dy,O,U,sx,sy,q⟩:=h;obtain⟨as,Y⟩:=Is.reads I dx x v O rx;obtain⟨bs,Z⟩:=Is.reads I dy y u U ry;exact eq_dataH Y Z sx sy (by have:=F.un;omega) ⟨.bl _,H,I,rfl,q⟩
def aq4 (F:QA X.A):OpR X (compareOp .NotEq) (aB3 X.K true):=by intro pins s σ H x y v u Q I rx ry h;obtain⟨dx,dy,O,U,sx,sy,q⟩:=h;obtain⟨as,Y⟩:=Is.reads I dx x v O rx;obtain⟨bs,Z⟩:=Is.reads I dy y u U ry;exact ne_dataH Y Z sx sy (by have:=F.un;omega) ⟨.bl _,H,I,rfl,q⟩
def ab1 (K:W.Frag):R2:=λx y H Q=>rEq x y H Q\/aB3 K false x y H Q
def ao4 (K:W.Frag):R2:=λx y H Q=>rNe x y H Q\/aB3 K true x y H Q
def aw7 (F:QA X.A):OpR X (compareOp .Eq) (ab1 X.K):=op_eq.or (ax9 F)
def ap6 (F:QA X.A):OpR X (compareOp .NotEq) (ao4 X.K):=op_ne.or (aq4 F)
def rInT (F:Bool):R2:=λx y H Q=>∃ i j,x = .str i/\y = .str j/\Q (.bl (if F then !(!(Builtin.Str.occurrences j i 0 j.length 1).isEmpty) else !(Builtin.Str.occurrences j i 0 j.length 1).isEmpty)) H
def aD6 (F:Bool):R2:=λx y H Q=>∃ a o,y = .ref a/\DGet H a x o/\Q (.bl (if F then !o.isSome else o.isSome)) H
def av3 (hu:X.A.units+1<cLine):OpR X (compareOp .In) (aD6 false):=by
 intro pins s σ H x y v u Q I O U h;obtain⟨a,o,rfl,g,q⟩:=h
 cases U;exact d_in hu I g O λs' F=>⟨.bl _,H,F,rfl,q⟩
def Zp (hu:X.A.units+1<cLine):OpR X (compareOp .NotIn) (aD6 true):=by
 intro pins s σ H x y v u Q I O U h;obtain⟨a,o,rfl,g,q⟩:=h
 cases U;exact an2 hu I g O λs' F=>⟨.bl _,H,F,rfl,q⟩
def aC3 (K:W.Frag)(F:Bool):R2:=λx y H Q=>∃ d ds,Is K H d x/\(Is K H (.list ds) y\/Is K H (.tuple ds) y)/\PyData.canLayAll0 ds=true/\d.canLay0=true/\d.depth<=100/\Q (.bl (if F then !(ds.any λe=>PyData.eqv e d) else ds.any λe=>PyData.eqv e d)) H
def ar9 (U:QA X.A):OpR X (compareOp .In) (aC3 X.K false):=by
 intro pins s σ H x y v u Q I rx Z h;obtain⟨d,ds,ix,F,h1,h2,h3,q⟩:=h;obtain⟨bs,Y⟩:=Is.reads I d x v ix rx;rcases F with F|F
 . obtain⟨as,O⟩:=Is.reads I _ y u F Z;exact SeqAt.in_list_reads O Y h1 h2 (by have:=U.un;have:=A3U (PyData.depthAll ds) d.depth;omega) ⟨.bl _,H,I,rfl,q⟩
 obtain⟨as,O⟩:=Is.reads I _ y u F Z;exact SeqAt.in_tuple_reads O Y h1 h2 (by have:=U.un;have:=A3U (PyData.depthAll ds) d.depth;omega) ⟨.bl _,H,I,rfl,q⟩
def Yt (U:QA X.A):OpR X (compareOp .NotIn) (aC3 X.K true):=by
 intro pins s σ H x y v u Q I rx Z h;obtain⟨d,ds,ix,F,h1,h2,h3,q⟩:=h;obtain⟨bs,Y⟩:=Is.reads I d x v ix rx;rcases F with F|F
 . obtain⟨as,O⟩:=Is.reads I _ y u F Z;exact SeqAt.notIn_list_reads O Y h1 h2 (by have:=U.un;have:=A3U (PyData.depthAll ds) d.depth;omega) ⟨.bl _,H,I,rfl,q⟩
 obtain⟨as,O⟩:=Is.reads I _ y u F Z;exact SeqAt.notIn_tuple_reads O Y h1 h2 (by have:=U.un;have:=A3U (PyData.depthAll ds) d.depth;omega) ⟨.bl _,H,I,rfl,q⟩
def Sq (K:W.Frag)(F:Bool):R2:=λx y H Q=>rIn K F x y H Q\/rInT F x y H Q\/aD6 F x y H Q\/aC3 K F x y H Q
def QA.hu {A:Around}(h:QA A):A.units+1<cLine:=by have:=h.un;omega
def ay0 (F:QA X.A):OpR X (compareOp .In) (Sq X.K false):=op_in_seq.or (op_in_str.or ((av3 F.hu).or (ar9 F)))
def Xn (F:QA X.A):OpR X (compareOp .NotIn) (Sq X.K true):=op_notIn_seq.or (op_notIn_str.or ((Zp F.hu).or (Yt F)))
def az2 (K:W.Frag):V->Option Int->Option Int->Hp->VK->Prop:=λx lo hi H Q=>aH7 K x lo hi H Q\/aH5 K x lo hi H Q\/aH1 x lo hi H Q\/aG9 K x lo hi H Q
def sl_A:SlR X (az2 X.K):=sl_list.or (sl_tup.or (sl_str.or a42))
def aG0:R2:=λx y H Q=>∃ a v,x = .ref a/\DGet H a y (some v)/\Q v H
def an9 (hu:X.A.units+1<cLine):IxR X aG0:=by
 intro value a0 pins s σ H x y v u Q I Y Z h hs;obtain⟨a,z,rfl,g,q⟩:=h
 cases Y;exact tail_any (Ts I g) PySem.F.slot_dict_getitem.lookup (Xl hu I g Z λw' s' O U=>⟨z,H,O,U,q⟩) hs
def Qb (K:W.Frag):R2:=λx y H Q=>rIx K x y H Q\/aG0 x y H Q
def az9 (hu:X.A.units+1<cLine):IxR X (Qb X.K):=ix_seq.or (an9 hu)
def R3 (K:W.Frag):List V->Hp->VK->Prop:=λxs H Q=>(∃ x n,xs=[x]/\aG2 K x H n/\Q (.int n) H)\/∃ a kvs,xs=[V.ref a]/\H a=some (.dK kvs)/\Q (.int kvs.length) H
def Zr:CallR X (.builtin "len") (R3 X.K):=call_len.or a02
def Ge (K:W.Frag):List V->Hp->VK->Prop:=λxs H Q=>(∃ x c t b,xs=[x,.ty c]/\TyOf K H x t/\W.kitOne K t (.type c)=some b/\Q (.bl b) H)\/(∃ x c t b,xs=[x,.ref c]/\TyOf K H x t/\W.kitOne K t (.ref c)=some b/\Q (.bl b) H)\/∃ a ys c b,xs=[V.ref a,.ty c]/\((SqT K H a ys/\W.kitOne K (.type "tuple") (.type c)=some b)\/(SqL K H a ys/\W.kitOne K (.type "list") (.type c)=some b))/\Q (.bl b) H
def Qn:CallR X (.builtin "isinstance") (Ge X.K):=call_isinst.or (call_isinstR.or Rf)
def Vh (K:W.Frag):List V->Hp->VK->Prop:=λxs H Q=>∃ p ys,xs=[.ref p]/\(SqL K H p ys\/SqT K H p ys)/\∀ l,H l=none->Q (.ref l) (upd H l (.lst ys))
def W0:CallR X (.type "list") (Vh X.K):=Sa
def Tv (K:W.Frag):List V->Hp->VK->Prop:=λxs H Q=>∃ p ys,xs=[.ref p]/\((SqL K H p ys/\∀ l,H l=none->Q (.ref l) (upd H l (.tup ys)))\/(SqT K H p ys/\Q (.ref p) H))
def Tg:CallR X (.type "tuple") (Tv X.K):=Pf
def at4:List V->Hp->VK->Prop:=λxs H Q=>(∃ b,xs=[.bl b]/\Q (.str (if b then "True" else "False")) H)\/(xs=[.non]/\Q (.str "None") H)
def Om:CallR X (.builtin "repr") at4:=Vr
def ar1:List V->Hp->VK->Prop:=λxs H Q=>(∃ i,xs=[.int i]/\Q (.int i) H)\/∃ k,xs=[.bl k]/\Q (.int (if k then 1 else 0)) H
def Mk:CallR X (.type "int") ar1:=X8
def aj1 (K:W.Frag):List V->Hp->VK->Prop:=λxs H Q=>∃(a:Addr) (bs:List Bool),xs=[.ref a]/\SqL K H a (bs.map V.bl)/\Q (.bl (bs.all id)) H
def Xs (F:X.calm=true):CallR X (.builtin "all") (aj1 X.K):=a75 F
def af3 (K:W.Frag):List V->Hp->VK->Prop:=λxs H Q=>∃(a:Addr) (bs:List Bool),xs=[.ref a]/\SqL K H a (bs.map V.bl)/\Q (.bl (bs.any id)) H
def Zi (F:X.calm=true):CallR X (.builtin "any") (af3 X.K):=a52 F
def Fa (K:W.Frag)(x:V)(H1:Hp)(R:It->Hp->Prop):Prop:=(∃ a,x = .ref a/\(∃ xs,SqL K H1 a xs)/\R (Itl K a) H1)\/(∃ a,x = .ref a/\(∃ xs,SqT K H1 a xs)/\R (Itt K a) H1)\/(∃ z,x = .str z/\R (Its z) H1)\/∃ a kvs,x = .ref a/\((H1 a=some (.dK kvs)/\∀ o,R (Itd a o kvs) (upd H1 a (.frz o (.dK kvs))))\/∃ o,H1 a=some (.frz o (.dK kvs))/\R (Itd a o kvs) H1)
def aD2 (K:W.Frag)(tl:TE):TI:=fun σ H R=>tl σ H λx H1=>Fa K x H1 R
theorem au2 (hu:X.A.units+1<cLine){l:Expr}{tl:TE}(hl:PE X l tl):PI X tg l (aD2 X.K tl):=by
 intro pins s σ H R I h;refine thn (hl pins s σ H _ I h) λv O ⟨x,H1,F,U,q1⟩=>?_;rcases q1 with ⟨a,e,⟨xs,Z⟩,q⟩|⟨a,e,⟨xs,Z⟩,q⟩|⟨z,e,q⟩|⟨a,kvs,e,q⟩
 . subst e
   cases U;obtain⟨a0,rv,p,hz⟩:=F.list Z;refine A2A p.isList ?_;refine⟨O.heap.objs.size,[O.heap.objs.size],_,_,H1,rfl,F.kept (t':=O.toks) λb o e=>A04 _ e,Wy a _,⟨_,A0F _ rfl,rfl,rfl⟩,λb Y=>?_,q⟩;have e:b=O.heap.objs.size:=by simpa using Y
   subst e;exact F.fpOk (A0B _) (F.hok.fresh (A0B _))
 . subst e
   cases U;obtain⟨a0,rv,p,hz⟩:=F.tuple Z;refine A2G (show O.heap.IsTuple a a0.toArray from p) ?_;refine⟨O.heap.objs.size,[O.heap.objs.size],_,_,H1,rfl,F.kept (t':=O.toks) λb o e=>A04 _ e,W5 a _,⟨_,A0F _ rfl,rfl,rfl⟩,λb Y=>?_,q⟩;have e:b=O.heap.objs.size:=by simpa using Y
   subst e;exact F.fpOk (A0B _) (F.hok.fresh (A0B _))
 . subst e;exact ar6 F U q
 subst e
 cases U;rcases q with ⟨hd,q⟩|⟨o,hd,q⟩
 . exact af4 F hd q
 exact a35 F hd q
def Fnd (P:Program)(w:World)(K:W.Frag)(mg:Str->Option Value)(base:Heap)(k:Nat)(x:Str)(ps:List Str)(sp:Sp):Prop:=
 ∃ f fd,FnOk P w K mg base CX0 k f fd ps sp/\mg x=some (.ref f)/\W.keepIn K (.ref f)=true/\Binds K fd ps []
section
variable {k:Nat}{ps:List Str}{e:Expr}{es:List Expr}{t:TA}{p:Pos}
def An (F:Fnd X.prog X.w X.K X.mg X.base k x ps sp)(hr:Room k X.A)(hg:Gl X x)(ha:PA X (e :: es) t)(Y:(x==("__debug__":Str))=false:=by decide)
 (Z:starEach (e :: es) X.env=(false,eval e X.env) :: starEach es X.env:=by ac_nf) (a0:(backTo pos (starEach es X.env)).any (·.1)=false:=by ac_nf):PE X (.Call (.Name x p) (e :: es) [] pos) (a78 sp [] E0 t):=by
 obtain⟨f,fd,h1,h2,O,U⟩:=F;exact Xz h1 hr hg h2 O U .nil aE2 ha Y Z a0
end
def ExtBut (d:Addr)(H H':Hp):Prop:=∀ b o,b≠d->H b=some o->H' b=some o
def Same.lk {o:HO}(e:Same H H')(h:H a=some o):H' a=some o:=e a o h
def ExtBut.lk {o:HO}(e:ExtBut d H H')(h:H a=some o)(n:a≠d):H' a=some o:=e a o n h
def Same.upd {o:HO}(h:H p=none):Same H (upd H p o):=λb u e=>by rw[Ay (ne_of_none e h)];exact e
def ExtBut.upd {o:HO}:ExtBut p H (upd H p o):=λb u n e=>by rw[Ay n];exact e
def Same.but (e:Same H H'):ExtBut d H H':=λb o _ h=>e b o h
def ExtBut.trans (a:ExtBut d H H1)(b:ExtBut d H1 H2):ExtBut d H H2:=λc o n h=>b c o n (a c o n h)
def ExtBut.same (a:ExtBut d H H1)(b:Same H1 H2):ExtBut d H H2:=λc o n h=>b c o (a c o n h)
def ExtBut.refl:ExtBut d H H:=λ_ _ _ h=>h
def as9 (xs:List V)(H:Hp)(Q:VK):Prop:=xs.length<=sizeLine/\∀ p,H p=none->Q (.ref p) (upd H p (.tup xs))
def at5 (xs:List V)(H:Hp)(Q:VK):Prop:=xs.length<=sizeLine/\∀ p,H p=none->Q (.ref p) (upd H p (.lst xs))
def ao9 (vs:List V)(H:Hp)(R:It->Hp->Prop):Prop:=∃ j:Int,vs=[.int j] /\ -(2 ^ 62)<=j/\j<2 ^ 62/\R (Itr 0 j.toNat) H
def ak3 (g:TG)(tb:TS)(D:Ends)(σ:St)(J:It)(H1:Hp):Prop:=∃ W:Nat->Nat->St->Hp->Prop,(∃ m,W 0 m σ H1)/\∀ i m σ H,W i m σ H ->
 (J.stop i H/\D.nx σ H)\/(J.go i H/\∃ N:St->Hp->Prop,(∀ σ' H',N σ' H'->∃ F,F<m/\W (i+1) F σ' H')/\∀ x H',J.yld i H x H'->g x σ H' fun σ2 H2=>tb {D with nx:=N,ct:=N,bk:=D.nx} σ2 H2)
def Kw (k:Nat)(js:List Nat)(g:TG)(tt:TT)(te:TE)(σ:St)(J:It)(H1:Hp)(Q:VK):Prop:=∀ p,H1 p=none ->
 ∃ W:Nat->Nat->Hp->Prop,(∃ m,W 0 m (upd H1 p (.lst [])))/\∀ i m H,W i m H ->
  (J.stop i H/\Q (.ref p) H)\/(J.go i H/\∃ N:Hp->Prop,(∀ H',N H'->∃ U,U<m/\W (i+1) U H') /\
   ∀ x H',J.yld i H x H'->g x (List.replicate k none++Mm σ js) H' fun σ2 H2=>tt σ2 H2 λb F=>if b=true then te σ2 F λy O=>∃ acc,O p=some (.lst acc)/\acc.length<sizeLine/\N (upd O p (.lst (acc++[y]))) else N F)
def ac2 (p:Addr)(ps:List (V×V))(H:Hp)(Q:VK):Prop:=H p=some (.dK [])/\∃ kvs:List (Key×V),ps=kvs.map (λkv=>(kV kv.1,kv.2))/\kvs.length<=15/\Q (.ref p) (upd H p (.dK (F4 [] kvs)))
section
variable {K:W.Frag}{σ:St}{ta tb:TE}{c:TT}{t u:TS}{x y:V}{i j:Int}
def i_var {n:Nat}(h:σ[n]? = some (some v))(k:Q v H):aE7 n σ H Q:=⟨v,h,k⟩
def i_c (k:Q v H):tC v σ H Q:=k
def i_next (k:D.nx σ H):ar0 D σ H:=k
def i_ret (k:te σ H D.rt):aF9 te D σ H:=k
def i_drop (k:te σ H λ_ H1=>D.nx σ H1):ap2 te D σ H:=k
def i_asg (k:te σ H λx H1=>g x σ H1 D.nx):ao3 te g D σ H:=k
def i_gname {n:Nat}{R:St->Hp->Prop}(k:R (σ.set n (some v)) H):Ht n v σ H R:=k
def i_if (k:c σ H λb H1=>if b=true then t D σ H1 else u D σ H1):aI5 c t u D σ H:=k
def i_op {r:R2}(k:ta σ H λx H1=>tb σ H1 λy H2=>r x y H2 Q):tOp r ta tb σ H Q:=k
def i_un {r:V->Hp->VK->Prop}(k:ta σ H λx H1=>r x H1 Q):tUn r ta σ H Q:=k
def i_rU {g:Int->V}(k:Q (g i) H):rU g (.int i) H Q:=⟨i,rfl,k⟩
def i_rI0 {g:Int->Int->V}(k:Q (g i j) H):rI0 g (.int i) (.int j) H Q:=⟨i,j,rfl,rfl,k⟩
def i_rI {C:Int->Int->Prop}{g:Int->Int->V}(h:C i j)(k:Q (g i j) H):rI C g (.int i) (.int j) H Q:=⟨i,j,rfl,rfl,h,k⟩
def i_addI (k:Q (.int (i+j)) H):Wq K (.int i) (.int j) H Q:=.inl ⟨i,j,rfl,rfl,k⟩
def i_addS {a b:Str}(h:a.length+b.length<=sizeLine)(k:Q (.str (a++b)) H):Wq K (.str a) (.str b) H Q:=.inr (.inl ⟨a,b,rfl,rfl,h,k⟩)
def Ly {b:Addr}(h1:H a=some (.lst xs))(h2:H b=some (.lst ys))(h:xs.length+ys.length<=sizeLine)(k:∀ p H',H p=none->Same H H'->H' p=some (.lst (xs++ys))->Q (.ref p) H'):Wq K (.ref a) (.ref b) H Q:=
 .inr (.inr (.inl ⟨a,b,xs,ys,rfl,rfl,h1,h2,h,λp F=>k p _ F (Same.upd F) Aj⟩))
def az4 (h:CMul i j)(k:Q (.int (i*j)) H):ao1 (.int i) (.int j) H Q:=.inl ⟨i,j,rfl,rfl,h,k⟩
def i_eqS (h:aB2 x y=true)(k:Q (.bl (decide (x=y))) H):ab1 K x y H Q:=.inl ⟨h,k⟩
def i_neS (h:aB2 x y=true)(k:Q (.bl (!decide (x=y))) H):ao4 K x y H Q:=.inl ⟨h,k⟩
def Rl {dx dy:PyData}(h1:Is K H dx x)(h2:Is K H dy y)(F:SeqAt.shaped dx=true)(O:SeqAt.shaped dy=true)(k:Q (.bl (PyData.eqv dx dy)) H):ab1 K x y H Q:=.inr ⟨dx,dy,h1,h2,F,O,k⟩
def Vy {dx dy:PyData}(h1:Is K H dx x)(h2:Is K H dy y)(F:SeqAt.shaped dx=true)(O:SeqAt.shaped dy=true)(k:Q (.bl (!PyData.eqv dx dy)) H):ao4 K x y H Q:=.inr ⟨dx,dy,h1,h2,F,O,k⟩
def i_true {R:Bool->Hp->Prop}(k:R true H):W1 σ H R:=k
def i_tTest {R:Bool->Hp->Prop}(k:te σ H λx H'=>∃ b,x = .bl b/\R b H'):ak6 te σ H R:=k
def i_tB {R:Bool->Hp->Prop}(k:te σ H λx H'=>∃ b,x = .bl b/\R b H'):tB te σ H R:=k
def i_bl {R:Bool->Prop}(k:R b):∃ c,V.bl b = .bl c/\R c:=⟨b,rfl,k⟩
def i_not {R:Bool->Hp->Prop}(k:c σ H λb H1=>R (!b) H1):aG7 c σ H R:=k
def i_and {F:TT}{R:Bool->Hp->Prop}(k:c σ H λb H1=>if b=true then F σ H1 R else R false H1):aH9 c F σ H R:=k
def i_or {F:TT}{R:Bool->Hp->Prop}(k:c σ H λb H1=>if b=true then R true H1 else F σ H1 R):tOr c F σ H R:=k
def Fv (h:H a=some (.lst xs))(e:atI xs i=some v)(k:Q v H):Qb K (.ref a) (.int i) H Q:=.inl (.inl ⟨a,xs,i,v,rfl,rfl,SqL.of h,e,k⟩)
def ag6 {s:Nat}(h:z.length<=sizeLine)(e:atI z.cps.toList i=some s)(k:Q (.str ⟨#[s]⟩) H):Qb K (.str z) (.int i) H Q:=.inl (.inr (.inr ⟨z,i,s,rfl,rfl,h,e,k⟩))
def i_ixD (h:H a=some (.dK kvs))(e:Gq kvs (Sum.inr z:Key)=some v)(k:Q v H):Qb K (.ref a) (.str z) H Q:=.inr ⟨a,v,rfl,by rw[<- e];exact DGet.k (k:=Sum.inr z) h,k⟩
def i_lenL (h:H a=some (.lst xs))(k:Q (.int xs.length) H):R3 K [.ref a] H Q:=.inl ⟨.ref a,_,rfl,.inl ⟨xs,SqL.of h,rfl⟩,k⟩
def i_lenS (h:z.length<=sizeLine)(k:Q (.int z.length) H):R3 K [.str z] H Q:=.inl ⟨.str z,_,rfl,⟨h,rfl⟩,k⟩
def F7 {c:String}{t:Value}(h:TyOf K H x t)(e:W.kitOne K t (.type c)=some b)(k:Q (.bl b) H):Ge K [x,.ty c] H Q:=.inl ⟨x,c,t,b,rfl,h,e,k⟩
def Vf {c:String}(h:SqT K H a ys)(e:W.kitOne K (.type "tuple") (.type c)=some b)(k:Q (.bl b) H):Ge K [.ref a,.ty c] H Q:=.inr (.inr ⟨a,ys,c,b,rfl,.inl ⟨h,e⟩,k⟩)
def V2 {c:String}(h:SqL K H a ys)(e:W.kitOne K (.type "list") (.type c)=some b)(k:Q (.bl b) H):Ge K [.ref a,.ty c] H Q:=.inr (.inr ⟨a,ys,c,b,rfl,.inr ⟨h,e⟩,k⟩)
def ad7 (h:SqL K H a xs)(k:∀ p H',H p=none->Same H H'->H' p=some (.lst xs)->Q (.ref p) H'):Vh K [.ref a] H Q:=⟨a,xs,rfl,.inl h,λp F=>k p _ F (Same.upd F) Aj⟩
def Fb (h:SqL K H a xs)(k:∀ p H',H p=none->Same H H'->H' p=some (.tup xs)->Q (.ref p) H'):Tv K [.ref a] H Q:=⟨a,xs,rfl,.inl ⟨h,λp F=>k p _ F (Same.upd F) Aj⟩⟩
def i_intB (k:Q (.int (if b then 1 else 0)) H):ar1 [.bl b] H Q:=.inr ⟨b,rfl,k⟩
def Zg {bs:List Bool}(h:SqL K H a (bs.map V.bl))(k:Q (.bl (bs.all id)) H):aj1 K [.ref a] H Q:=⟨a,bs,rfl,h,k⟩
def an8 {bs:List Bool}(h:SqL K H a (bs.map V.bl))(k:Q (.bl (bs.any id)) H):af3 K [.ref a] H Q:=⟨a,bs,rfl,h,k⟩
def i_sl {r:V->Option Int->Option Int->Hp->VK->Prop}{tl th:TO}(k:te σ H λx H1=>tl σ H1 λl H2=>th σ H2 λu F=>r x l u F Q):tSl r te tl th σ H Q:=k
def i_noPart {R:Option Int->Hp->Prop}(k:R none H):Yc σ H R:=k
def i_part {R:Option Int->Hp->Prop}(k:te σ H λx H1=>∃ i,x = .int i/\R (some i) H1):aA7 te σ H R:=k
def i_int {R:Int->Prop}(k:R i):∃ j,V.int i = .int j/\R j:=⟨i,rfl,k⟩
def i_slS {lo hi:Option Int}(h:z.length<=sizeLine)(k:Q (.str (Txt.slice z lo hi)) H):az2 K (.str z) lo hi H Q:=.inr (.inr (.inl ⟨z,rfl,h,k⟩))
def R6 {lo hi:Option Int}(h:SqL K H a xs)(k:∀ p H',H p=none->Same H H'->H' p=some (.lst (So xs lo hi))->Q (.ref p) H'):az2 K (.ref a) lo hi H Q:=.inl ⟨a,xs,rfl,h,λp F=>k p _ F (Same.upd F) Aj⟩
def i_inS {a b:Str}(k:Q (.bl (!(Builtin.Str.occurrences b a 0 b.length 1).isEmpty)) H):Sq K false (.str a) (.str b) H Q:=.inr (.inl ⟨a,b,rfl,rfl,k⟩)
def i_bm {T:String}{r:V->List V->Hp->VK->Prop}(k:te σ H λx H1=>tyV K T x H1/\ts σ H1 λxs H2=>r x xs H2 Q):tBM K T r te ts σ H Q:=k
def i_bm0 {T:String}{r:V->List V->Hp->VK->Prop}(k:te σ H λx H1=>tyV K T x H1/\r x [] H1 Q):aC7 K T r te σ H Q:=k
def i_call {E:XK}(k:ts σ H λvs H1=>sp (vs++[]) H1 Q E):a78 sp [] E ts σ H Q:=k
def i_cb {r:List V->Hp->VK->Prop}(k:ts σ H λvs H1=>r vs H1 Q):tCB r ts σ H Q:=k
def i_cons {tr:TA}{R:List V->Hp->Prop}(k:ta σ H λx H1=>tr σ H1 λxs H2=>R (x :: xs) H2):ap8 ta tr σ H R:=k
def i_nil {R:List V->Hp->Prop}(k:R [] H):aG6 σ H R:=k
def i_tup (k:ts σ H λxs H1=>as9 xs H1 Q):aG1 ts σ H Q:=k
def i_lst (k:ts σ H λxs H1=>at5 xs H1 Q):aI3 ts σ H Q:=k
def B3 (h:xs.length<=sizeLine)(k:∀ p H',H p=none->Same H H'->H' p=some (.tup xs)->Q (.ref p) H'):as9 xs H Q:=⟨h,λp F=>k p _ F (Same.upd F) Aj⟩
def Br (h:xs.length<=sizeLine)(k:∀ p H',H p=none->Same H H'->H' p=some (.lst xs)->Q (.ref p) H'):at5 xs H Q:=⟨h,λp F=>k p _ F (Same.upd F) Aj⟩
def ao8 (k:∀ p H',H p=none->Same H H'->H' p=some (.dK [])->Q (.ref p) H'):ab6 σ H Q:=λp F=>k p _ F (Same.upd F) Aj
def i_put {td ty tv:TE}(k:tv σ H λv H1=>td σ H1 λx H2=>ty σ H2 λy O=>∃ a F,x = .ref a/\DPut O a y v F/\D.nx σ F):av6 td ty tv D σ H:=k
def Mx {R:Hp->Prop}(h:H a=some (.dK kvs))(hl:kvs.length<1000)(k:∀ H',ExtBut a H H'->H' a=some (.dK (Io kvs (Sum.inr z) v))->R H'):∃ b F,V.ref a = .ref b/\DPut H b (.str z) v F/\R F:=
 ⟨a,_,rfl,DPut.k (k:=Sum.inr z) h (Y0 (A27 hl)),k _ ExtBut.upd Aj⟩
def i_for {tb:TS}(k:wi σ H λJ H1=>ak3 g tb D σ J H1):aH8 wi g tb D σ H:=k
def i_comp {js:List Nat}(k:wi σ H λJ H1=>Kw m js g tt te σ J H1 Q):aj8 m js wi g tt te σ H Q:=k
def i_itS {R:It->Hp->Prop}(k:R (Its z) H):Fa K (.str z) H R:=.inr (.inr (.inl ⟨z,rfl,k⟩))
def Hq {R:It->Hp->Prop}(h:SqL K H a xs)(k:R (Itl K a) H):Fa K (.ref a) H R:=.inl ⟨a,rfl,⟨xs,h⟩,k⟩
def Ix {R:It->Hp->Prop}(h:SqT K H a xs)(k:R (Itt K a) H):Fa K (.ref a) H R:=.inr (.inl ⟨a,rfl,⟨xs,h⟩,k⟩)
def aw8 {R:It->Hp->Prop}(h:H a=some (.dK kvs))(k:∀ o,R (Itd a o kvs) (upd H a (.frz o (.dK kvs)))):Fa K (.ref a) H R:=.inr (.inr (.inr ⟨a,kvs,rfl,.inl ⟨h,k⟩⟩))
def aj3 {o:Obj}{R:It->Hp->Prop}(h:H a=some (.frz o (.dK kvs)))(k:R (Itd a o kvs) H):Fa K (.ref a) H R:=.inr (.inr (.inr ⟨a,kvs,rfl,.inr ⟨o,h,k⟩⟩))
def i_rng1 {R:It->Hp->Prop}(k:ts σ H λvs H1=>ao9 vs H1 R):av8 ts σ H R:=k
def Iy {R:It->Hp->Prop}(h:-(2 ^ 62)<=i/\i<2 ^ 62)(k:R (Itr 0 i.toNat) H):ao9 [V.int i] H R:=⟨i,rfl,h.1,h.2,k⟩
def i_iany {R:It->Hp->Prop}(k:te σ H λx H1=>Fa K x H1 R):aD2 K te σ H R:=k
def Zk {O:List (TE×TE)}(k:∀ p H1,H p=none->Same H H1->H1 p=some (.dK [])->Nm O σ H1 λps H2=>ac2 p ps H2 Q):at8 O σ H Q:=λp F=>k p _ F (Same.upd F) Aj
def i_pair {tk tv:TE}{r:List (TE×TE)}{R:List (V×V)->Hp->Prop}(k:tk σ H λx H1=>tv σ H1 λy H2=>Nm r σ H2 λps F=>R ((x,y) :: ps) F):Nm ((tk,tv) :: r) σ H R:=k
def Sx {ps:List (V×V)}(kvs:List (Key×V))(h:H p=some (.dK []))(e:ps=kvs.map (λkv=>(kV kv.1,kv.2)))(hl:kvs.length<=15)(k:∀ H',ExtBut p H H'->H' p=some (.dK (F4 [] kvs))->Q (.ref p) H'):ac2 p ps H Q:=⟨h,kvs,e,hl,k _ ExtBut.upd Aj⟩
def i_pair0 {R:List (V×V)->Hp->Prop}(k:R [] H):Nm [] σ H R:=k
end
def Gw {c A:Prop}[Decidable c](h1:c->A)(h2:¬ c->B):if decide c=true then A else B:=by
 by_cases h:c
 . rw[A0K (A0D h)];exact h1 h
 rw[A0J (by rw[A0H h];exact A0C)];exact h2 h
def M0 {c A:Prop}[Decidable c](h1:¬ c->A)(h2:c->B):if(!decide c)=true then A else B:=by
 by_cases h:c
 . rw[A0D h,A0J ∅];exact h2 h
 rw[A0H h,A0K ∅];exact h1 h
def aj9 {A:Prop}(h1:b=true->A)(h2:b=false->B):if b=true then A else B:=by
 cases b
 . rw[A0J A0C];exact h2 rfl
 rw[A0K rfl];exact h1 rfl
def Wu {A:Prop}(h1:b=false->A)(h2:b=true->B):if(!b)=true then A else B:=by
 cases b
 . exact h1 rfl
 exact h2 rfl
def iteNT {A:Prop}(h:B):if(!true)=true then A else B:=h
def iteNF {A B:Prop}(h:A):if(!false)=true then A else B:=h
def Ak {n:Nat}(h:n<=1000000):n<=sizeLine:=by rw[A0T];omega
def Eo (J:It)(xs:List V)(G:Hp->Prop):Prop:=
 ∀ i H,G H->(i<xs.length->J.go i H)/\(xs.length<=i->J.stop i H)/\∀ x H',i<xs.length->J.yld i H x H'->H'=H/\xs[i]? = some x
def Ua (z:Str):Eo (Its z) (z.cps.toList.map λc=>.str ⟨#[c]⟩) λ_=>True:=by
 intro i H _;refine⟨λh=>?_,λh=>?_,λx H' _ h=>?_⟩
 . show i<z.cps.size;simpa using h
 . show z.cps.size<=i;simpa using h
 obtain⟨e,c,F,rfl⟩:=h;refine⟨e,?_⟩;rw[A06,A3P,F];rfl
def Bc {K:W.Frag}:Eo (Itl K a) xs λH=>SqL K H a xs:=by intro i H g;refine⟨λh=>⟨xs,xs[i],g,A00 h⟩,λh=>⟨xs,g,h⟩,λx H' _ h=>⟨h.1,h.2 xs g⟩⟩
def By {K:W.Frag}:Eo (Itt K a) xs λH=>SqT K H a xs:=by intro i H g;refine⟨λh=>⟨xs,xs[i],g,A00 h⟩,λh=>⟨xs,g,h⟩,λx H' _ h=>⟨h.1,h.2 xs g⟩⟩
def G0 {o:Obj}:Eo (Itd a o kvs) (kvs.map λkv=>kV kv.1) λH=>H a=some (.frz o (.dK kvs)):=by intro i H g;rw[A01];refine⟨λh=>⟨g,h⟩,λh=>⟨g,h⟩,λx H' _ h=>?_⟩;obtain⟨e,kv,h1,h2⟩:=h;exact⟨e,by rw[A06,h1,h2];rfl⟩
def Cb {n:Nat}:Eo (Itr lo n) ((List.range n).map λ(i:Nat)=>V.int (lo+(i:Int))) λ_=>True:=by
 intro i H _;refine⟨λh=>?_,λh=>?_,λx H' hi h=>?_⟩
 . show i<n;simpa using h
 . show n<=i;simpa using h
 obtain⟨e,O⟩:=h;refine⟨e,?_⟩;have F:i<n:=by simpa using hi
 rw[A06,A52 F,O];rfl
theorem a54 {σ:St}(hw:Eo J xs G)(Pv:Nat->St->Hp->Prop)(U:Pv 0 σ H)(Y:∀ i σ H,Pv i σ H->G H)
 (hs:∀ i x σ H,xs[i]? = some x->Pv i σ H->g x σ H fun σ2 H2=>tb {D with nx:=Pv (i+1),ct:=Pv (i+1),bk:=D.nx} σ2 H2) (hd:∀ σ H,Pv xs.length σ H->D.nx σ H) :
 ∃ W:Nat->Nat->St->Hp->Prop,(∃ m,W 0 m σ H)/\∀ i m σ H,W i m σ H ->
  (J.stop i H/\D.nx σ H)\/(J.go i H/\∃ N:St->Hp->Prop,(∀ σ' H',N σ' H'->∃ O,O<m/\W (i+1) O σ' H')/\∀ x H',J.yld i H x H'->g x σ H' fun σ2 H2=>tb {D with nx:=N,ct:=N,bk:=D.nx} σ2 H2):=by
 refine⟨λi m σ H=>m=xs.length-i/\i<=xs.length/\Pv i σ H,⟨xs.length,by simp,Nat.zero_le _,U⟩,?_⟩;rintro i m σ H ⟨rfl,hi,p⟩;obtain⟨w1,w2,w3⟩:=hw i H (Y i σ H p)
 by_cases F:i<xs.length
 . refine .inr ⟨w1 F,Pv (i+1),fun σ' H' p'=>⟨xs.length-(i+1),by omega,rfl,F,p'⟩,λx H' y=>?_⟩;obtain⟨e,Z⟩:=w3 x H' F y;subst e;exact hs i x σ _ Z p
 have e:i=xs.length:=by omega
 subst e;exact .inl ⟨w2 (A0B _),hd σ H p⟩
def CN (p:Addr)(n:Nat)(Pv:Nat->List V->Hp->Prop)(i:Nat):Hp->Prop:=λH'=>i+1<=n/\∃ acc,H' p=some (.lst acc)/\acc.length<=i+1/\Pv (i+1) acc H'
def am6 {n:Nat}{y:V}(hn:n<=1000000)(hi:i<n)(hl:acc.length<=i)(e:H p=some (.lst acc))(k:∀ H',ExtBut p H H'->H' p=some (.lst (acc++[y]))->Pv (i+1) (acc++[y]) H') :
 ∃ acc,H p=some (.lst acc)/\acc.length<sizeLine/\CN p n Pv i (upd H p (.lst (acc++[y]))):=
 ⟨acc,e,by rw[A0T];omega,hi,acc++[y],Aj,by rw[A08,A1C];omega,k _ ExtBut.upd Aj⟩
def Yq {n:Nat}(hi:i<n)(hl:acc.length<=i)(e:H p=some (.lst acc))(k:Pv (i+1) acc H):CN p n Pv i H:=⟨hi,acc,e,by omega,k⟩
theorem Z2 {σ:St}{k:Nat}{js:List Nat}(hw:Eo J xs G)(hp:H p=none)(Pv:Nat->List V->Hp->Prop)
 (h0:∀ H',Same H H'->H' p=some (.lst [])->Pv 0 [] H') (hG:∀ i acc H,Pv i acc H->G H)
 (hs:∀ i x acc H,xs[i]? = some x->i<xs.length->acc.length<=i->H p=some (.lst acc)->Pv i acc H->g x (List.replicate k none++Mm σ js) H fun σ2 H2=>tt σ2 H2 λb F=>if b=true then te σ2 F λy O=>∃ acc,O p=some (.lst acc)/\acc.length<sizeLine/\CN p xs.length Pv i (upd O p (.lst (acc++[y]))) else CN p xs.length Pv i F)
 (hd:∀ acc H,H p=some (.lst acc)->acc.length<=xs.length->Pv xs.length acc H->Q (.ref p) H) :
 ∃ W:Nat->Nat->Hp->Prop,(∃ m,W 0 m (upd H p (.lst [])))/\∀ i m H,W i m H ->
  (J.stop i H/\Q (.ref p) H)\/(J.go i H/\∃ N:Hp->Prop,(∀ H',N H'->∃ Z,Z<m/\W (i+1) Z H') /\
   ∀ x H',J.yld i H x H'->g x (List.replicate k none++Mm σ js) H' fun σ2 H2=>tt σ2 H2 λb F=>
    if b=true then te σ2 F λy O=>∃ acc,O p=some (.lst acc)/\acc.length<sizeLine/\N (upd O p (.lst (acc++[y]))) else N F):=by
 refine⟨λi m H=>m=xs.length-i/\i<=xs.length/\∃ acc,H p=some (.lst acc)/\acc.length<=i/\Pv i acc H,⟨xs.length,by simp,Nat.zero_le _,[],Aj,Nat.le_refl _,h0 _ (Same.upd hp) Aj⟩,?_⟩;rintro i m H ⟨rfl,hi,acc,Y,hl,q⟩;obtain⟨w1,w2,w3⟩:=hw i H (hG i acc H q)
 by_cases U:i<xs.length
 . refine .inr ⟨w1 U,CN p xs.length Pv i,λH' ⟨h1,h2⟩=>⟨xs.length-(i+1),by omega,rfl,h1,h2⟩,λx H' y=>?_⟩;obtain⟨e,hx⟩:=w3 x H' U y;subst e;exact hs i x acc _ hx U hl Y q
 have e:i=xs.length:=by omega
 subst e;exact .inl ⟨w2 (A0B _),hd acc H Y hl q⟩
def ap7 (p:Addr)(N:Hp->Prop):VK:=λy F=>∃ acc,F p=some (.lst acc)/\acc.length<sizeLine/\N (upd F p (.lst (acc++[y])))
theorem Fq {σ:St}{k:Nat}{js:List Nat}(hw:Eo J xs G)(Pv:Addr->Nat->List V->Hp->Prop)
 (Y:∀ p H',H p=none->Same H H'->H' p=some (.lst [])->Pv p 0 [] H') (hG:∀ p i acc H,Pv p i acc H->G H)
 (hs:∀ p i x acc H1,H p=none->xs[i]? = some x->i<xs.length->acc.length<=i->H1 p=some (.lst acc)->Pv p i acc H1->g x (List.replicate k none++Mm σ js) H1 fun σ2 H2=>tt σ2 H2 λb U=>if b=true then te σ2 U (ap7 p (CN p xs.length (Pv p) i)) else CN p xs.length (Pv p) i U)
 (hd:∀ p acc H1,H p=none->H1 p=some (.lst acc)->acc.length<=xs.length->Pv p xs.length acc H1->Q (.ref p) H1):Kw k js g tt te σ J H Q:=λp F=>
 Z2 hw F (Pv p) (λH' e h=>Y p H' F e h) (hG p) (λi x acc H1 h1 h2 O Z h5=>hs p i x acc H1 F h1 h2 O Z h5) λacc H1 h1 h2 O=>hd p acc H1 F h1 h2 O
def J3 {n:Nat}{y:V}(hn:n<=1000000)(hi:i<n)(hl:acc.length<=i)(e:H p=some (.lst acc))(k:∀ H',ExtBut p H H'->H' p=some (.lst (acc++[y]))->Pv (i+1) (acc++[y]) H') :
 ap7 p (CN p n Pv i) y H:=am6 hn hi hl e k
theorem Zd {σ:St}{k:Nat}{js:List Nat}(hw:Eo J xs G)(t:V->Bool)(f:V->V)(hz:xs.length<=1000000)(hG:∀ H',Same H H'->G H')
 (hs:∀(i:Nat) x H1 (R:VK) (R':Hp->Prop),xs[i]? = some x->Same H H1->(t x=true->R (f x) H1)->(t x=false->R' H1)->g x (List.replicate k none++Mm σ js) H1 fun σ2 H2=>tt σ2 H2 λb U=>if b=true then te σ2 U R else R' U)
 (hd:∀ p H',H p=none->Same H H'->H' p=some (.lst ((xs.filter t).map f))->Q (.ref p) H'):Kw k js g tt te σ J H Q:=by
 refine Fq hw (λp i acc H1=>Same H H1/\acc=((xs.take i).filter t).map f) (λp H' O e h=>⟨e,by simp⟩) (λp i acc H1 h=>hG H1 h.1) (λp i x acc H1 O hx hi hl ha ⟨e,F⟩=>?_) λp acc H1 O ha hl ⟨e,F⟩=>?_
 . have Z:xs.take (i+1)=xs.take i++[x]:=by rw[A0U,hx];rfl
   refine hs i x H1 _ _ hx e (λh=>?_) λh=>?_
   . refine J3 hz hi hl ha λH' e' h'=>⟨λb o Y=>e' b o (ne_of_none Y O) (e b o Y),?_⟩;rw[Z,A45,A0R,F];simp[h]
   refine Yq hi hl ha ⟨e,?_⟩;rw[Z,A45,A0R,F];simp[h]
 refine hd p H1 O e ?_;rw[ha,F,A14]
def a14 (h:(z.cps.toList.map λc=>V.str ⟨#[c]⟩)[i]? = some v):∃ c,v = .str ⟨#[c]⟩/\c∈z.cps.toList:=by
 rw[A06] at h
 cases e:z.cps.toList[i]? with
 |none=>rw[e] at h;cases h
 |some c=>rw[e] at h;cases h;exact⟨c,rfl,A05 e⟩
def Nk {α:Type}(xs:List α):xs.filter (λ_=>true)=xs:=by simp
def Pm {σ:St}{k:Nat}{js:List Nat}(hw:Eo J xs G)(f:V->V)(hz:xs.length<=1000000)(F:∀ H',Same H H'->G H')
 (hs:∀(i:Nat) x H1 (R:VK),xs[i]? = some x->Same H H1->R (f x) H1->g x (List.replicate k none++Mm σ js) H1 fun σ2 H2=>te σ2 H2 R)
 (hd:∀ p H',H p=none->Same H H'->H' p=some (.lst (xs.map f))->Q (.ref p) H'):Kw k js g W1 te σ J H Q:=
 Zd hw (λ_=>true) f hz F (λi x H1 R R' U e h _=>by
  have:=hs i x H1 R U e (h rfl);show g x _ H1 fun σ2 H2=>if true=true then te σ2 H2 R else R' H2
  simpa using this) λp H' O e h=>hd p H' O e (by rw[h,Nk])
def Kp {σ:St}(hw:Eo J xs G)(Pv:Nat->St->Hp->Prop)(O:Pv 0 σ H)(U:∀ i σ H,Pv i σ H->G H)
 (hs:∀ i x σ H,xs[i]? = some x->i<xs.length->Pv i σ H->g x σ H fun σ2 H2=>tb {D with nx:=Pv (i+1),ct:=Pv (i+1),bk:=D.nx} σ2 H2) (hd:∀ σ H,Pv xs.length σ H->D.nx σ H):ak3 g tb D σ J H:=
 a54 hw Pv O U (λi x σ H F=>hs i x σ H F (A03.mp F).1) hd
section
variable {K:W.Frag}
def B7 (F:X.K=K:=by ac_nf):OpR X (binaryOp .Add) (Wq K):=F ▸ ae1
def Aq (O:QA X.A)(F:X.K=K:=by ac_nf):OpR X (compareOp .Eq) (ab1 K):=F ▸ aw7 O
def C8 (O:QA X.A)(F:X.K=K:=by ac_nf):OpR X (compareOp .NotEq) (ao4 K):=F ▸ ap6 O
def D3 (O:QA X.A)(F:X.K=K:=by ac_nf):OpR X (compareOp .In) (Sq K false):=F ▸ ay0 O
def Fx (O:QA X.A)(F:X.K=K:=by ac_nf):OpR X (compareOp .NotIn) (Sq K true):=F ▸ Xn O
def A4 (hu:X.A.units+1<cLine)(F:X.K=K:=by ac_nf):IxR X (Qb K):=F ▸ az9 hu
def Q7 (F:X.K=K:=by ac_nf):SlR X (az2 K):=F ▸ sl_A
def Ab (F:X.K=K:=by ac_nf):CallR X (.builtin "len") (R3 K):=F ▸ Zr
def Al (F:X.K=K:=by ac_nf):CallR X (.builtin "isinstance") (Ge K):=F ▸ Qn
def Oe (F:X.K=K:=by ac_nf):CallR X (.type "list") (Vh K):=F ▸ W0
def Cg (F:X.K=K:=by ac_nf):CallR X (.type "tuple") (Tv K):=F ▸ Tg
def Ib (O:X.calm=true)(F:X.K=K:=by ac_nf):CallR X (.builtin "all") (aj1 K):=F ▸ Xs O
def My (O:X.calm=true)(F:X.K=K:=by ac_nf):CallR X (.builtin "any") (af3 K):=F ▸ Zi O
def Ao (hu:X.A.units+1<cLine){l:Expr}{tl:TE}(hl:PE X l tl)(F:X.K=K:=by ac_nf):PI X tg l (aD2 K tl):=F ▸ au2 hu hl
def Lc {es:List Expr}{k:Nat}{t:TGs}{n:Nat}(O:X.calm=true)(h:PGs X es t)(F:X.K=K:=by ac_nf)
 (hn:(assignEach es X.env).length=n:=by ac_nf) (U:(assignEach es X.env).findIdx? (·.1)=none:=by ac_nf):PG X (.Tuple es k pos) (ab4 K n t):=F ▸ aq6 O h hn U
variable {o e:Expr}{es:List Expr}{to:TE}{t:TA}{name:Str}{apos cpos:Pos}{T id:String}{r:V->List V->Hp->VK->Prop}
def ai0 (pa:PlainAttrs T)(slot:Slot T name id)(Z:typeOf (.builtin id)=pure (.type "method_descriptor"))(hm:MtR X id r)(Y:PE X o to)(F:X.K=K:=by ac_nf)
 (O:attributeBase o name X.env (eval o X.env)=eval o X.env:=by ac_nf) (U:(apos.endLine==cpos.line)=true:=by ac_nf):PE X (.Call (.Attribute o name apos) [] [] cpos) (aC7 K T r to):=F ▸ az1 pa slot Z hm Y O U
theorem Ig (pa:PlainAttrs T)(slot:Slot T name id)(a1:typeOf (.builtin id)=pure (.type "method_descriptor"))(hm:MtR X id r)(Z:PE X o to)(ha:PA X (e :: es) t)(F:X.K=K:=by ac_nf)
 (O:attributeBase o name X.env (eval o X.env)=eval o X.env:=by ac_nf)
 (U:((backTo cpos (starEach (e :: es) X.env)).all (λx=>!x.1)&&(backToKw cpos (keywordEach [] X.env)).all (λx=>x.1.isSome)
  && decide ((e :: es).length+([]:List Keyword).length+(if([]:List Keyword).isEmpty then 0 else 1)<30))=true:=by ac_nf)
 (Y:(apos.endLine==cpos.line)=true:=by ac_nf) (hs:starEach (e :: es) X.env=(false,eval e X.env) :: starEach es X.env:=by ac_nf) (a0:(backTo cpos (starEach es X.env)).any (·.1)=false:=by ac_nf) :
 PE X (.Call (.Attribute o name apos) (e :: es) [] cpos) (tBM K T r to t):=F ▸ aD0 pa slot a1 hm Z ha O U Y hs a0
end
def Fz (H H':Hp):Prop:=∀ a xs,Rd H a (.tup xs)->Rd H' a (.tup xs)
def Fz.refl (H:Hp):Fz H H:=λ_ _ h=>h
def Fz.trans (a:Fz H H1)(b:Fz H1 H2):Fz H H2:=λc xs h=>b c xs (a c xs h)
def Same.fz (e:Same H H'):Fz H H':=λa xs h=>by
 rcases h with h|⟨o,h⟩
 . exact .inl (e _ _ h)
 exact .inr ⟨o,e _ _ h⟩
def ac3 (e:ExtBut p H H')(F:∀ xs,¬ Rd H p (.tup xs)):Fz H H':=λa xs h=>by
 have n:a≠p:=λq=>F xs (q ▸ h);rcases h with h|⟨o,h⟩
 . exact .inl (e _ _ n h)
 exact .inr ⟨o,e _ _ n h⟩
def ExtBut.fzL {l:List V}(e:ExtBut p H H')(F:H p=some (.lst l)):Fz H H':=ac3 e λxs h=>by
 rcases h with h|⟨o,h⟩
 . rw[F] at h;cases h
 rw[F] at h;cases h
def ExtBut.fzD {l:List (Key×V)}(e:ExtBut p H H')(F:H p=some (.dK l)):Fz H H':=ac3 e λxs h=>by
 rcases h with h|⟨o,h⟩
 . rw[F] at h;cases h
 rw[F] at h;cases h
def Fz.seq {K:W.Frag}(e:Fz H H')(h:SqT K H a xs):SqT K H' a xs:=by
 rcases h with h|h
 . exact .inl (e _ _ h)
 exact .inr h
mutual
def frz:PyData->Bool
 |.tuple ds=>frzL ds
 |.list _=>false
 |.dict _=>false
 |_=>true
def frzL:List PyData->Bool
 | []=>true
 |d :: ds=>frz d&&frzL ds
end
mutual
theorem Is.fz {K:W.Frag}{H H':Hp}(e:Fz H H'):∀(d:PyData) (v:V),frz d=true->Is K H d v->Is K H' d v
 |.none,_,_,h=>by simp only[Is] at h ⊢;exact h
 |.bool _,_,_,h=>by simp only[Is] at h ⊢;exact h
 |.int _,_,_,h=>by simp only[Is] at h ⊢;exact h
 |.str _,_,_,h=>by simp only[Is] at h ⊢;exact h
 |.list ds,v,hf,_=>by simp[frz] at hf
 |.tuple ds,v,hf,h=>by simp only[Is] at h ⊢;obtain⟨a,xs,F,O,U⟩:=h;exact⟨a,xs,F,e.seq O,IsL.fz e ds xs (by simpa only[frz] using hf) U⟩
 |.dict _,_,_,h=>by simp only[Is] at h
theorem IsL.fz {K:W.Frag}{H H':Hp}(e:Fz H H'):∀(ds:List PyData) (vs:List V),frzL ds=true->IsL K H ds vs->IsL K H' ds vs
 | [],_,_,h=>by simp only[IsL] at h ⊢;exact h
 |d :: ds,vs,hf,h=>by simp only[IsL] at h ⊢;simp only[frzL,Bool.and_eq_true] at hf;obtain⟨v,r,F,O,U⟩:=h;exact⟨v,r,F,Is.fz e d v hf.1 O,IsL.fz e ds r hf.2 U⟩
end
section
variable {K:W.Frag}
theorem IsL.length:∀ {ds:List PyData} {vs:List V},IsL K H ds vs->ds.length=vs.length
 | [],_,h=>by simp only[IsL] at h;subst h;rfl
 |d :: ds,vs,h=>by simp only[IsL] at h;obtain⟨v,r,rfl,_,F⟩:=h;simp only[List.length_cons,IsL.length F]
theorem IsL.get:∀ {ds:List PyData} {vs:List V} {i:Nat} {x:V},IsL K H ds vs->vs[i]? = some x->∃ d,ds[i]? = some d/\Is K H d x
 | [],_,_,_,h,e=>by simp only[IsL] at h;subst h;simp at e
 |d :: ds,vs,i,x,h,e=>by
   simp only[IsL] at h;obtain⟨v,r,rfl,F,O⟩:=h
   cases i with
   |zero=>simp at e;subst e;exact⟨d,rfl,F⟩
   |succ i=>obtain⟨d',h1,h2⟩:=IsL.get (i:=i) O (by simpa using e);exact⟨d',by simpa using h1,h2⟩
theorem IsL.at:∀ {ds:List PyData} {vs:List V} {i:Nat} {d:PyData},IsL K H ds vs->ds[i]? = some d->∃ x,vs[i]? = some x/\Is K H d x
 | [],_,_,_,h,e=>by simp at e
 |d :: ds,vs,i,d',h,e=>by
   simp only[IsL] at h;obtain⟨v,r,rfl,F,O⟩:=h
   cases i with
   |zero=>simp at e;subst e;exact⟨v,rfl,F⟩
   |succ i=>obtain⟨x,h1,h2⟩:=IsL.at (i:=i) O (by simpa using e);exact⟨x,by simpa using h1,h2⟩
theorem IsL.append:∀ {ds es:List PyData} {vs us:List V},IsL K H ds vs->IsL K H es us->IsL K H (ds++es) (vs++us)
 | [],_,_,_,h,g=>by simp only[IsL] at h;subst h;exact g
 |d :: ds,es,vs,us,h,g=>by simp only[IsL] at h;obtain⟨v,r,rfl,F,O⟩:=h;simp only[List.cons_append,IsL];exact⟨v,_,rfl,F,IsL.append O g⟩
def IsL.one {d:PyData}(h:Is K H d v):IsL K H [d] [v]:=by simp only[IsL];exact⟨v,[],rfl,h,rfl⟩
def IsL.nil:IsL K H [] []:=by simp only[IsL]
def IsL.cons {d:PyData}   {vs:List V} (h:Is K H d v) (g:IsL K H ds vs):IsL K H (d :: ds) (v :: vs):=by simp only[IsL];exact⟨v,vs,rfl,h,g⟩
theorem IsL.take:∀ {ds:List PyData} {vs:List V} (n:Nat),IsL K H ds vs->IsL K H (ds.take n) (vs.take n)
 |ds,vs,0,h=>by simp only[List.take_zero];exact .nil
 | [],vs,n+1,h=>by simp only[IsL] at h;subst h;exact .nil
 |d :: ds,vs,n+1,h=>by simp only[IsL] at h;obtain⟨v,r,rfl,F,O⟩:=h;exact .cons F (IsL.take n O)
theorem IsL.drop:∀ {ds:List PyData} {vs:List V} (n:Nat),IsL K H ds vs->IsL K H (ds.drop n) (vs.drop n)
 |ds,vs,0,h=>h
 | [],vs,n+1,h=>by simp only[IsL] at h;subst h;exact .nil
 |d :: ds,vs,n+1,h=>by simp only[IsL] at h;obtain⟨v,r,rfl,O,F⟩:=h;exact IsL.drop n F
theorem IsL.str_eq:∀ {ns:List Str} {vs:List V},IsL K H (ns.map PyData.str) vs->vs=ns.map V.str
 | [],vs,h=>by simp only[List.map_nil,IsL] at h;exact h
 |n :: ns,vs,h=>by simp only[List.map_cons,IsL,Is] at h;obtain⟨v,r,rfl,rfl,F⟩:=h;rw[IsL.str_eq F];rfl
def Is.tup (h:Is K H (.tuple ds) v):∃ a xs,v = .ref a/\SqT K H a xs/\IsL K H ds xs:=by simpa only[Is] using h
def Is.of_tup (h:SqT K H a xs)(g:IsL K H ds xs):Is K H (.tuple ds) (.ref a):=by simp only[Is];exact⟨a,xs,rfl,h,g⟩
def Is.of_lst (h:SqL K H a xs)(g:IsL K H ds xs):Is K H (.list ds) (.ref a):=by simp only[Is];exact⟨a,xs,rfl,h,g⟩
theorem Is.str (h:Is K H (.str z) v):v = .str z:=by simpa only[Is] using h
def Xe:Is K H (.str z) (.str z):=by simp only[Is]
def aC2 {z:Bool}:Is K H (.bool z) (.bl z):=by simp only[Is]
end
def nmD (ns:List Str):PyData:=.tuple (ns.map PyData.str)
def prD (p:Str×Str):PyData:=.tuple [.str p.1,.str p.2]
def psD (ps:List (Str×Str)):PyData:=.tuple (ps.map prD)
def hfD (ns:List Str)(ps:List (Str×Str)):PyData:=.tuple [nmD ns,psD ps]
theorem Ml:∀ ns:List Str,frzL (ns.map PyData.str)=true
 | []=>rfl
 |n :: ns=>by simp only[List.map_cons,frzL,frz,Ml ns,Bool.and_self]
def a94 (ns:List Str):frz (nmD ns)=true:=by simp only[nmD,frz,Ml]
def Oo (p:Str×Str):frz (prD p)=true:=by simp[prD,frz,frzL]
theorem E2:∀ ps:List (Str×Str),frzL (ps.map prD)=true
 | []=>rfl
 |n :: ns=>by simp only[List.map_cons,frzL,Oo,E2 ns,Bool.and_self]
def a93 (ps:List (Str×Str)):frz (psD ps)=true:=by simp only[psD,frz,E2]
def Mz (ns:List Str)(ps:List (Str×Str)):frz (hfD ns ps)=true:=by simp only[hfD,frz,frzL,a94,a93,Bool.and_self]
section
variable {K:W.Frag}
def Is.nm {ns:List Str}(h:Is K H (nmD ns) v):∃ a,v = .ref a/\SqT K H a (ns.map V.str):=by obtain⟨a,xs,rfl,h1,h2⟩:=Is.tup h;exact⟨a,rfl,by rw[<- IsL.str_eq h2];exact h1⟩
def Z7 {ns:List Str}(h:SqT K H a (ns.map V.str)):Is K H (nmD ns) (.ref a):=Is.of_tup h (Pe ns)
def Is.pr {p:Str×Str}(h:Is K H (prD p) v):∃ a,v = .ref a/\SqT K H a [.str p.1,.str p.2]:=by obtain⟨a,xs,rfl,h1,h2⟩:=Is.tup h;simp only[IsL,Is] at h2;obtain⟨_,_,rfl,rfl,_,_,rfl,rfl,rfl⟩:=h2;exact⟨a,rfl,h1⟩
def am1 (h:SqT K H a [.str x,.str y]):Is K H (prD (x,y)) (.ref a):=Is.of_tup h (.cons Xe (.one Xe))
def Is.hf {ns:List Str}{ps:List (Str×Str)}(h:Is K H (hfD ns ps) v):∃ a x y,v = .ref a/\SqT K H a [x,y]/\Is K H (nmD ns) x/\Is K H (psD ps) y:=by obtain⟨a,xs,rfl,h1,h2⟩:=Is.tup h;simp only[IsL] at h2;obtain⟨x,_,rfl,F,y,_,rfl,O,rfl⟩:=h2;exact⟨a,x,y,rfl,h1,F,O⟩
def a46 {ns:List Str}{ps:List (Str×Str)}{x y:V}(h:SqT K H a [x,y])(F:Is K H (nmD ns) x)(O:Is K H (psD ps) y):Is K H (hfD ns ps) (.ref a):=Is.of_tup h (.cons F (.one O))
def Is.nm_fz {ns:List Str}(h:Is K H (nmD ns) v)(e:Fz H H'):Is K H' (nmD ns) v:=Is.fz e _ _ (a94 ns) h
def Is.pr_fz {p:Str×Str}(h:Is K H (prD p) v)(e:Fz H H'):Is K H' (prD p) v:=Is.fz e _ _ (Oo p) h
def Is.ps_fz {ps:List (Str×Str)}(h:Is K H (psD ps) v)(e:Fz H H'):Is K H' (psD ps) v:=Is.fz e _ _ (a93 ps) h
def Is.hf_fz {ns:List Str}{ps:List (Str×Str)}(h:Is K H (hfD ns ps) v)(e:Fz H H'):Is K H' (hfD ns ps) v:=Is.fz e _ _ (Mz ns ps) h
variable {σ:St}{x:V}{i:Int}
def Au (h:SqT K H a xs)(e:atI xs i=some v)(k:Q v H):Qb K (.ref a) (.int i) H Q:=.inl (.inr (.inl ⟨a,xs,i,v,rfl,rfl,h,e,k⟩))
def Hx {ns:List Str}{ps:List (Str×Str)}(h:Is K H (hfD ns ps) x)(k:∀ v,Is K H (nmD ns) v->Q v H):Qb K x (.int 0) H Q:=by obtain⟨a,u,w,rfl,h1,h2,F⟩:=h.hf;exact Au h1 rfl (k u h2)
def Xj {ns:List Str}{ps:List (Str×Str)}(h:Is K H (hfD ns ps) x)(k:∀ v,Is K H (psD ps) v->Q v H):Qb K x (.int 1) H Q:=by obtain⟨a,u,w,rfl,h1,h2,F⟩:=h.hf;exact Au h1 rfl (k w F)
def Yd {p:Str×Str}(h:Is K H (prD p) x)(k:Q (.str p.1) H):Qb K x (.int 0) H Q:=by obtain⟨a,rfl,h1⟩:=h.pr;exact Au h1 rfl k
def Ys {p:Str×Str}(h:Is K H (prD p) x)(k:Q (.str p.2) H):Qb K x (.int 1) H Q:=by obtain⟨a,rfl,h1⟩:=h.pr;exact Au h1 rfl k
def Oq (h:Is K H (.tuple ds) x)(k:Q (.int ds.length) H):R3 K [x] H Q:=by obtain⟨a,xs,rfl,h1,h2⟩:=h.tup;rw[IsL.length h2] at k;exact .inl ⟨.ref a,_,rfl,.inr ⟨xs,h1,rfl⟩,k⟩
def S0 {ns:List Str}(h:Is K H (nmD ns) x)(k:Q (.int ns.length) H):R3 K [x] H Q:=Oq h (by rw[A01];exact k)
def aq1 {ps:List (Str×Str)}(h:Is K H (psD ps) x)(k:Q (.int ps.length) H):R3 K [x] H Q:=Oq h (by rw[A01];exact k)
def Ke (ns:List Str):(ns.map V.str).all Ph=true:=by rw[A0L];intro v h;obtain ⟨n,_,rfl⟩:=A0A.mp h;rfl
theorem K9 (z:Str):∀ ns:List Str,inV (.str z) (ns.map V.str)=decide (z∈ns)
 | []=>rfl
 |n :: ns=>by
   have F:=K9 z ns;unfold inV at F ⊢;rw[A0P,A2F,F]
   have e:eqV (V.str n) (V.str z)=decide (n=z):=by
    show(n==z)=_
    by_cases h:n=z<;>simp[h]
   rw[e]
   by_cases h:n=z
   . subst h;simp
   have h':¬ z=n:=λq=>h q.symm
   by_cases g:z∈ns<;>simp[h,h',g]
def aE8 {ns:List Str}(h:Is K H (nmD ns) x)(k:Q (.bl (decide (z∈ns))) H):Sq K false (.str z) x H Q:=by obtain⟨a,rfl,h1⟩:=h.nm;exact .inl ⟨a,_,rfl,.inr h1,rfl,Ke ns,by rw[K9];exact k⟩
def Z1 {ns:List Str}(h:SqL K H a (ns.map V.str))(k:Q (.bl (decide (z∈ns))) H):Sq K false (.str z) (.ref a) H Q:=
 .inl ⟨a,_,rfl,.inl h,rfl,Ke ns,by rw[K9];exact k⟩
def ad1 {ns:List Str}(h:Is K H (nmD ns) x)(k:Q (.bl (!decide (z∈ns))) H):Sq K true (.str z) x H Q:=by obtain⟨a,rfl,h1⟩:=h.nm;exact .inl ⟨a,_,rfl,.inr h1,rfl,Ke ns,by rw[K9];exact k⟩
def Yh {ns:List Str}(h:SqL K H a (ns.map V.str))(k:Q (.bl (!decide (z∈ns))) H):Sq K true (.str z) (.ref a) H Q:=
 .inl ⟨a,_,rfl,.inl h,rfl,Ke ns,by rw[K9];exact k⟩
def ad6 {p:Str×Str}{n:Nat}{R:St->Hp->Prop}(h:Is K H (prD p) x)(k:R ((σ.set n (some (.str p.1))).set m (some (.str p.2))) H):ab4 K 2 (M8 (Ht n) (M8 (Ht m) ae6)) x σ H R:=by obtain⟨a,rfl,h1⟩:=h.pr;exact⟨a,_,rfl,h1,rfl,.str p.1,[.str p.2],rfl,.str p.2,[],rfl,rfl,k⟩
theorem ab0 (h:Is K H (.tuple ds) x)(hf:frzL ds=true)(Pv:Nat->St->Hp->Prop)(Y:Pv 0 σ H)(F:∀ i σ' H',Pv i σ' H'->Fz H H')
 (hs:∀ i d v σ' H',ds[i]? = some d->Is K H' d v->Pv i σ' H'->g v σ' H' fun σ2 H2=>tb {D with nx:=Pv (i+1),ct:=Pv (i+1),bk:=D.nx} σ2 H2) (hd:∀ σ' H',Pv ds.length σ' H'->D.nx σ' H') :
 Fa K x H λJ H1=>ak3 g tb D σ J H1:=by
 obtain⟨a,xs,rfl,h1,h2⟩:=h.tup;refine Ix h1 (Kp By Pv Y (λi σ' H' p=>(F i σ' H' p).seq h1) (λi v σ' H' Z hi p=>?_) fun σ' H' p=>hd σ' H' (by rw[IsL.length h2];exact p));obtain⟨d,O,U⟩:=IsL.get (IsL.fz (F i σ' H' p) ds xs hf h2) Z;exact hs i d v σ' H' O U p
def Zo {ns:List Str}(h:Is K H (nmD ns) x)(Pv:Nat->St->Hp->Prop)(F:Pv 0 σ H)(O:∀ i σ' H',Pv i σ' H'->Fz H H')
 (hs:∀ i z σ' H',ns[i]? = some z->Pv i σ' H'->g (.str z) σ' H' fun σ2 H2=>tb {D with nx:=Pv (i+1),ct:=Pv (i+1),bk:=D.nx} σ2 H2) (hd:∀ σ' H',Pv ns.length σ' H'->D.nx σ' H') :
 Fa K x H λJ H1=>ak3 g tb D σ J H1:=
 ab0 h (Ml ns) Pv F O (λi d v σ' H' e h p=>by
  rw[A06] at e
  cases hn:ns[i]? with
  |none=>rw[hn] at e;cases e
  |some z=>
    rw[hn] at e
    cases e;rw[h.str];exact hs i z σ' H' hn p) fun σ' H' p=>hd σ' H' (by rw[A01] at p;exact p)
def Z6 {ps:List (Str×Str)}(h:Is K H (psD ps) x)(Pv:Nat->St->Hp->Prop)(F:Pv 0 σ H)(O:∀ i σ' H',Pv i σ' H'->Fz H H')
 (hs:∀ i p v σ' H',ps[i]? = some p->Is K H' (prD p) v->Pv i σ' H'->g v σ' H' fun σ2 H2=>tb {D with nx:=Pv (i+1),ct:=Pv (i+1),bk:=D.nx} σ2 H2) (hd:∀ σ' H',Pv ps.length σ' H'->D.nx σ' H') :
 Fa K x H λJ H1=>ak3 g tb D σ J H1:=
 ab0 h (E2 ps) Pv F O (λi d v σ' H' e h p=>by
  rw[A06] at e
  cases hn:ps[i]? with
  |none=>rw[hn] at e;cases e
  |some z=>
    rw[hn] at e
    cases e;exact hs i z v σ' H' hn h p) fun σ' H' p=>hd σ' H' (by rw[A01] at p;exact p)
theorem Kl {α:Type}(f:α->PyData)(hf:∀ a,frz (f a)=true):∀ xs:List α,frzL (xs.map f)=true
 | []=>rfl
 |x :: xs=>by simp only[List.map_cons,frzL,hf,Kl f hf xs,Bool.and_self]
theorem C4 {α:Type}{k:Nat}{js:List Nat}(hw:Eo J xs G)(as:List α)(hl:as.length=xs.length)(t:α->Bool)(f:α->PyData)(hf:∀ a,frz (f a)=true)(hz:xs.length<=1000000)(hG:∀ H',Same H H'->G H')
 (hs:∀(i:Nat) a v H1 (R:VK) (R':Hp->Prop),as[i]? = some a->xs[i]? = some v->Same H H1->(t a=true->∀ y H2,Same H1 H2->Is K H2 (f a) y->R y H2)->(t a=false->∀ H2,Same H1 H2->R' H2) ->
  g v (List.replicate k none++Mm σ js) H1 fun σ2 H2=>tt σ2 H2 λb Z=>if b=true then te σ2 Z R else R' Z)
 (hd:∀ p ys H',H p=none->Same H H'->H' p=some (.lst ys)->IsL K H' ((as.filter t).map f) ys->Q (.ref p) H'):Kw k js g tt te σ J H Q:=by
 refine Fq hw (λp i acc H1=>Same H H1/\IsL K H1 (((as.take i).filter t).map f) acc) (λp H' U e h=>⟨e,by simp only[List.take_zero,List.filter_nil,List.map_nil];exact .nil⟩) (λp i acc H1 h=>hG H1 h.1) (λp i x acc H1 U hx hi Y ha ⟨e,O⟩=>?_) λp acc H1 U ha Y ⟨e,O⟩=>?_
 . have a0:i<as.length:=by omega
   obtain⟨a,hai⟩:∃ a,as[i]? = some a:=⟨as[i],A00 a0⟩;have ht:as.take (i+1)=as.take i++[a]:=by rw[A0U,hai];rfl
   refine hs i a x H1 _ _ hai hx e (λh y H2 F hy=>?_) λh H2 F=>?_
   . refine J3 hz hi Y (F _ _ ha) λH' e' h'=>⟨λb o hb=>e' b o (ne_of_none hb U) (F _ _ (e b o hb)),?_⟩;rw[ht,A45,A0R];have fz:=e'.fzL (F _ _ ha);refine IsL.append (IsL.fz (F.fz.trans fz) _ _ (Kl f hf _) O) ?_;simp only[List.filter_cons,h,if_true,List.filter_nil,List.map_cons,List.map_nil];exact .one (Is.fz fz _ _ (hf a) hy)
   refine Yq hi Y (F _ _ ha) ⟨e.trans F,?_⟩;rw[ht,A45,A0R];simp only[List.filter_cons,h,Bool.false_eq_true,if_false,List.filter_nil,List.map_nil,List.append_nil];exact IsL.mono F _ _ O
 refine hd p acc H1 U e ha ?_;rw[<- hl,A14] at O;exact O
end
section
variable {K:W.Frag}
def at9:PyData->Bool
 |.list _=>true
 |.tuple _=>true
 |_=>false
mutual
theorem Is.noDict {H:Hp}:∀(d:PyData) (v:V),Is K H d v->d.hasDict=false
 |.none,_,h=>by simp only[PyData.hasDict]
 |.bool _,_,h=>by simp only[PyData.hasDict]
 |.int _,_,h=>by simp only[PyData.hasDict]
 |.str _,_,h=>by simp only[PyData.hasDict]
 |.list ds,v,h=>by simp only[Is] at h;obtain⟨a,xs,O,U,F⟩:=h;simp only[PyData.hasDict];exact IsL.noDict ds xs F
 |.tuple ds,v,h=>by simp only[Is] at h;obtain⟨a,xs,O,U,F⟩:=h;simp only[PyData.hasDict];exact IsL.noDict ds xs F
 |.dict _,_,h=>by simp only[Is] at h
theorem IsL.noDict {H:Hp}:∀(ds:List PyData) (vs:List V),IsL K H ds vs->PyData.hasDictAll ds=false
 | [],_,h=>by simp only[PyData.hasDictAll]
 |d :: ds,vs,h=>by simp only[IsL] at h;obtain⟨v,r,U,F,O⟩:=h;simp only[PyData.hasDictAll,Is.noDict d v F,IsL.noDict ds r O,Bool.or_self]
end
structure Sh (d:PyData):Prop where
 dp:at9 d=true
 sh:d.showable=true
 fits:d.shown.length<=sizeLine
 deep:d.depth<=100
theorem On (F:QA X.A):CallR X (.builtin "repr") (λxs H Q=>∃ x d,xs=[x]/\Is X.K H d x/\Sh d/\Q (.str d.shown) H):=by
 intro pins s σ H xs us Q I rv h;obtain⟨x,d,rfl,i,S,q⟩:=h;obtain⟨u,rfl,ru⟩:=rv.one;obtain⟨as,Z⟩:=Is.reads I d x u i ru
 have U:∃ a,u = .ref a:=by
  have hd:=S.dp
  cases d with
  |list ds=>simp only[Is] at i;obtain⟨a,_,rfl,_⟩:=i;exact⟨a,ru⟩
  |tuple ds=>simp only[Is] at i;obtain⟨a,_,rfl,_⟩:=i;exact⟨a,ru⟩
  |_=>cases hd
 obtain⟨a,rfl⟩:=U;refine repr_of_reads' Z S.sh (λY=>absurd Y (by rw[Is.noDict d x i];exact A0C)) F.gd (by have:=F.un;have:=S.deep;omega) (λ_ _ e=>e) (λh' t tk O=>?_) S.fits;exact⟨.str d.shown,H,I.kept O,⟨t,rfl⟩,q⟩
def U2 (z:Str)(n:Nat):Str:=⟨(List.replicate n z.cps).foldl (· ++ ·) #[]⟩
def ap5:R2:=λx y H Q=>∃ z n,x = .str z/\y = .int n/\2<=n/\n<=1000/\z.length<=1000/\0<z.length/\Q (.str (U2 z n.toNat)) H
theorem al3:OpR X (binaryOp .Mult) ap5:=by
 intro pins s σ H x y v u Q I rx ry h;obtain⟨z,n,rfl,rfl,h1,h2,h3,h4,q⟩:=h;obtain⟨t,rfl⟩:=rx;obtain⟨t2,rfl⟩:=ry;have O:¬ n<1:=by omega
 have U:(n==1||z.length==0)=false:=by
  have e1:(n==1)=false:=by simp;omega
  have F:(z.length==0)=false:=by simp;omega
  rw[e1,F];rfl
 have hz:z.length*n.toNat<=1000000:=by have:z.length*n.toNat<=1000*1000:=A48 h3 (by omega);omega
 have a0:(U2 z n.toNat).length<=sizeLine:=by
  have e:∀(m:Nat) (a:Array Nat),((List.replicate m z.cps).foldl (· ++ ·) a).size=a.size+m*z.cps.size:=by
   intro m
   induction m with
   |zero=>intro a;simp
   |succ m ih=>intro a;rw[A2Q,A4N,ih,Array.size_append,Nat.succ_mul];omega
  show((List.replicate n.toNat z.cps).foldl (· ++ ·) #[]).size<=sizeLine;rw[e];have F:z.cps.size=z.length:=rfl;rw[F,A0T,Nat.mul_comm];simp;omega
 refine PySem.P.mul_str (by
  have Y:¬ n < -(2 ^ 63:Int):=by omega
  have Z:¬ n>=2 ^ 63:=by omega
  rw[A0H Y,A0H Z];rfl) (λ_ _=>?_) (λ_ _=>?_) ?_
 . have:(2 ^ 63-1:Int) / n>=1000:=by
    refine Int.le_ediv_of_mul_le (by omega) ?_;have:1000*n<=1000*1000:=by omega
    omega
   omega
 . have a3:z.length*n.toNat<=sizeLine:=Ak hz;rw[A0T] at a3;unfold Builtin.Str.tooLong;simp[sizeLine_eq];omega
 rw[A0J O,U,A0J A0C];exact⟨a0,.str _,H,I.kept λ_ _ e=>e,⟨_,rfl⟩,q⟩
def ae4:R2:=λx y H Q=>ao1 x y H Q\/ap5 x y H Q
def Cw:OpR X (binaryOp .Mult) ae4:=op_mulA.or al3
def i_mulBI {i j:Int}(h:CMul i j)(k:Q (.int (i*j)) H):ae4 (.int i) (.int j) H Q:=.inl (az4 h k)
def ae7 {n:Int}(h:2<=n/\n<=1000/\z.length<=1000/\0<z.length)(k:Q (.str (U2 z n.toNat)) H):ae4 (.str z) (.int n) H Q:=.inr ⟨z,n,rfl,rfl,h.1,h.2.1,h.2.2.1,h.2.2.2,k⟩
def rIs (F:Bool):R2:=λx y H Q=>(y = .non/\Q (.bl (if F then !decide (x = .non) else decide (x = .non))) H)\/∃ a b,x = .bl a/\y = .bl b/\Q (.bl (if F then !(a==b) else a==b)) H
def Zc:OpR X (compareOp .Is) (rIs false):=by
 intro pins s σ H x y v u Q I F O h;rcases h with ⟨rfl,q⟩|⟨a,b,rfl,rfl,q⟩
 . exact au6 pins s σ H x .non v u Q I F O ⟨rfl,q⟩
 cases F
 cases O;refine wpAny_is_plain rfl ?_;refine⟨.bl _,H,I,?_,q⟩;show Value.bool (Value.bool a==Value.bool b)=Value.bool (a==b)
 cases a<;>cases b<;>rfl
def N7:OpR X (compareOp .IsNot) (rIs true):=by
 intro pins s σ H x y v u Q I F O h;rcases h with ⟨rfl,q⟩|⟨a,b,rfl,rfl,q⟩
 . exact ag4 pins s σ H x .non v u Q I F O ⟨rfl,q⟩
 cases F
 cases O;refine wpAny_isNot_plain rfl ?_;refine⟨.bl _,H,I,?_,q⟩;show Value.bool (!(Value.bool a==Value.bool b))=Value.bool (!(a==b))
 cases a<;>cases b<;>rfl
def i_isN {x:V}(k:Q (.bl (decide (x = .non))) H):rIs false x .non H Q:=.inl ⟨rfl,k⟩
def i_isNotN {x:V}(k:Q (.bl (!decide (x = .non))) H):rIs true x .non H Q:=.inl ⟨rfl,k⟩
def aF0 (xs:List V)(i:Nat)(y:V):List V:=xs.take i++y :: xs.drop i
def a06:V->List V->Hp->VK->Prop:=λx vs H Q=>∃ l xs i y,x = .ref l/\vs=[.int i,y]/\H l=some (.lst xs)/\0<=i/\i<=xs.length/\xs.length<sizeLine/\Q .non (upd H l (.lst (aF0 xs i.toNat y)))
theorem X9:MtM X "list.insert" a06:=by
 intro pins s σ H x vs v us Q I rx Y h;obtain⟨l,xs,i,y,rfl,rfl,U,h0,h1,hz,q⟩:=h
 cases rx;obtain⟨u,w,rfl,ru,Z⟩:=Vals.two Y;obtain⟨t,rfl⟩:=ru;obtain⟨z,O,n,r,hl,e⟩:=I.lstM U;have a0:=r.length
 refine A3M F.slot_list_insert ⟨_,e,rfl⟩ F.entry_list_insert (F.args_list_insert_3 _ _ _)
  (AutoSeq1.list_insert_list_int_val_1 l O.toArray n i t w (by rw[fitsIndex_both (by omega) (by rw[A0T] at hz;omega)];decide) (by rw[A0E];omega)) ⟨e,?_⟩
 refine⟨.non,_,I.lset (its':=O.take i.toNat++w :: O.drop i.toNat) U e ?_ ((r.take i.toNat).append (.cons Z (r.drop i.toNat))) ?_,rfl,q⟩
 . have hi:i.toNat<=O.length:=by omega
   show(have k:=if i<0 then(i+((O.toArray.size:Nat):Int)).toNat else min i.toNat O.toArray.size;(O.toArray.extract 0 k).push w++O.toArray.extract k)=_
   rw[A0J (by omega),A0E,Nat.min_eq_left hi];simp[List.extract_eq_drop_take];exact A3L (by rw[A1N];omega)
 rw[A08,A0X,A0S,A1N];omega
section
variable {σ:St}{t u:TS}{td ty tv:TE}
def N1 (M:St->Hp->Prop)(h1:∀ N:St->Hp->Prop,(∀ σ' H',M σ' H'->N σ' H')->t {D with nx:=N} σ H)(h2:∀ σ' H',M σ' H'->u D σ' H'):aB7 t u D σ H:=h1 (u D) h2
end
def al0 (h:SqL K H a xs\/SqT K H a xs)(k:∀ p H',H p=none->Same H H'->H' p=some (.lst xs)->Q (.ref p) H'):Vh K [.ref a] H Q:=⟨a,xs,rfl,h,λp F=>k p _ F (Same.upd F) Aj⟩
def mm {id:String}{r:V->List V->Hp->VK->Prop}(h:MtM X id r):MtR X id r:=h
def i_tyLm (h:H a=some (.lst xs))(k:B):tyV K "list" (.ref a) H/\B:=⟨.inl ⟨rfl,xs,SqL.of h⟩,k⟩
def aC5 {y:V}{i:Int}(h:H l=some (.lst xs))(F:0<=i)(h1:i<=xs.length)(hz:xs.length<=1000000)(k:∀ H',ExtBut l H H'->H' l=some (.lst (aF0 xs i.toNat y))->Q .non H'):a06 (.ref l) [.int i,y] H Q:=
 ⟨l,xs,i,y,rfl,rfl,h,F,h1,by rw[A0T];omega,k _ ExtBut.upd Aj⟩
def Uv {y:V}(h:H l=some (.lst xs))(hz:xs.length<=1000000)(k:∀ H',ExtBut l H H'->H' l=some (.lst (xs++[y]))->Q .non H'):a05 (.ref l) [y] H Q:=
 ⟨l,xs,y,rfl,rfl,h,by rw[A0T];omega,k _ ExtBut.upd Aj⟩
def aa9 {b:Addr}{zs:List V}(h:H l=some (.lst xs))(F:H b=some (.lst zs))(hz:xs.length+zs.length<=1000000)(k:∀ H',ExtBut l H H'->H' l=some (.lst (xs++zs))->Q .non H'):Ss (.ref l) [.ref b] H Q:=
 ⟨l,b,xs,zs,rfl,rfl,h,F,Ak hz,k _ ExtBut.upd Aj⟩
def a61 {y:V}{i:Int}(h:H l=some (.lst xs))(U:0<=i)(h1:xs[i.toNat]? = some y)(k:∀ H',ExtBut l H H'->H' l=some (.lst (xs.eraseIdx i.toNat))->Q y H')(hz:xs.length<=1000000):aa0 (.ref l) [.int i] H Q:=by
 have h2:=(A03.mp h1).1;refine⟨l,xs,i,i.toNat,y,rfl,rfl,h,by omega,by omega,?_,h1,k _ ExtBut.upd Aj⟩;have e:=Pu (Ag (α:=V) h1);obtain⟨j,F,Y,Z,_⟩:=e;rw[A2R U] at F;rw[F]
 have O:seqIndex? i xs.length=some i.toNat:=by unfold seqIndex? at F ⊢;simp[show ¬ i<0 by omega] at F ⊢;omega
 rw[<- F,O]
end
def Kc (c:Nat):Bool:=decide (97<=c)&&decide (c<=122)
def O0 (x:Str):Bool:=decide (1<=x.length)&&decide (x.length<=8)&&x.cps.toList.all Kc
def Names (ns:List Str):Prop:=ns.Nodup/\∀ z∈ns,O0 z=true
def LL:Str:="abcdefghijklmnopqrstuvwxyzabcdefghijklmnopqrstuvwxyz"
def ay8:U2 "abcdefghijklmnopqrstuvwxyz" (2:Int).toNat=LL:=by decide +kernel
def LLn:List Nat:=LL.cps.toList
def aw4:LL.length=52:=by decide +kernel
def L4:LLn.length=52:=by decide +kernel
def V1:∀ c∈LLn,Kc c=true:=by decide +kernel
def txt (l:List Nat):Str:=⟨l.toArray⟩
def Xd {a b:List Nat}(h:txt a=txt b):a=b:=by have:a.toArray=b.toArray:=congrArg Str.cps h;simpa using this
def Ya (a b:List Nat):txt a++txt b=txt (a++b):=by show(⟨a.toArray++b.toArray⟩:Str)=⟨(a++b).toArray⟩;simp
def Mc {l:List Nat}(F:1<=l.length)(h1:l.length<=8)(h2:∀ c∈l,Kc c=true):O0 (txt l)=true:=by
 unfold O0;have e:(txt l).length=l.length:=by show l.toArray.size=_;simp
 rw[e,A0D F,A0D h1];show(true&&true&&l.all Kc)=true;rw[A0L.mpr h2];rfl
def P6 (a b:Nat):List Nat:=(LLn.drop a).take (b-a)
def Km {a b:Nat}(h:a<=b)(h1:b<=52):(P6 a b).length=b-a:=by unfold P6;rw[A0S,A1N,L4];omega
def L0 {a b:Nat}:∀ c∈P6 a b,Kc c=true:=λc F=>V1 c (A36 (A1Y F))
def Y5 {i j:Int}(O:0<=i)(h1:i<=j)(h2:j<=52):Txt.slice LL (some i) (some j)=txt (P6 i.toNat j.toNat):=by
 have e:=StrLaws.sliceText_plain (x:=LL) (i:=i) (j:=j) ⟨O,h1,by rw[show LL.cps.toList.length=52 by decide +kernel];omega⟩;have F:(j-i).toNat=j.toNat-i.toNat:=by omega
 rw[F] at e;exact e
def Qa (i:Nat):List Nat:=(LLn.drop i).take 1
def am8 {i:Int}(F:0<=i)(h1:i<52):∃ c,atI LL.cps.toList i=some c/\(⟨#[c]⟩:Str)=txt (Qa i.toNat):=by
 have h2:i.toNat<LLn.length:=by rw[L4];omega
 refine⟨LLn[i.toNat],?_,?_⟩
 . have:=Ag (A00 h2);rwa[A2R F] at this
 unfold Qa;rw[List.drop_eq_getElem_cons h2];rfl
def Mf (h:i<52):(Qa i).length=1:=by unfold Qa;rw[A0S,A1N,L4];omega
def Lb:∀ c∈Qa i,Kc c=true:=λc F=>V1 c (A36 (A1Y F))
theorem D7 {α β:Type}{f:α->β}:∀ {l:List α},l.Nodup->(∀ a∈l,∀ b∈l,f a=f b->a=b)->(l.map f).Nodup
 | [],_,_=>by simp
 |a :: l,h,hf=>by rw[A0P,A12];rw[A12] at h;refine⟨λhm=>?_,D7 h.2 λx O y U=>hf x (A0I _ O) y (A0I _ U)⟩;obtain⟨b,F,e⟩:=A0A.mp hm;have:=hf b (A0I _ F) a A16 e;subst this;exact h.1 F
theorem Gy {α β:Type}{f:α->β}:∀ {l:List α},(l.map f).Nodup->∀ a∈l,∀ b∈l,f a=f b->a=b
 | [],_,a,ha,_,_,_=>by cases ha
 |c :: l,h,a,ha,b,hb,e=>by
   rw[A0P,A12] at h;rcases A0G.mp ha with q|ha'
   . rcases A0G.mp hb with q'|hb'
     . rw[q,q']
     exact absurd (A0A.mpr ⟨b,hb',by rw[<- e,q]⟩) h.1
   rcases A0G.mp hb with q'|hb'
   . exact absurd (A0A.mpr ⟨a,ha',by rw[e,q']⟩) h.1
   exact Gy h.2 a ha' b hb' e
def Ra {l:List (List Nat)}(h:l.Nodup):(l.map txt).Nodup:=D7 h λa _ b _ e=>Xd e
def Names.perm {ns:List Str}(h:Names ns)(p:ms.Perm ns):Names ms:=⟨p.nodup_iff.mpr h.1,λz hz=>h.2 z (p.mem_iff.mp hz)⟩
theorem Names.sublist {ns:List Str}(h:Names ns)(p:ms.Sublist ns):Names ms:=⟨h.1.sublist p,λz hz=>h.2 z (p.subset hz)⟩
def a72 {t:Int}(O:0<=t)(h1:t<=xs.length):So xs (some t) none=xs.drop t.toNat:=by
 have e:HT.sIx xs.length 0 (some t)=t.toNat:=by unfold HT.sIx;simp[show ¬ t<0 by omega];omega
 unfold So;rw[e];have F:HT.sIx xs.length xs.length none=xs.length:=rfl;rw[F];exact A3L (by rw[A1N];omega)
def Gs {t:Int}(O:0<=t):So xs none (some t)=xs.take t.toNat:=by
 have e:HT.sIx xs.length xs.length (some t)=min t.toNat xs.length:=by unfold HT.sIx;simp[show ¬ t<0 by omega]
 unfold So;rw[e];have F:HT.sIx xs.length 0 none=0:=rfl;rw[F,List.drop_zero,Nat.sub_zero,Nat.min_comm];rw[<- List.take_take];exact A3L (by rw[A0S];omega)
def Fs  {n:Nat} {x:V} (h:((List.range n).map λ(i:Nat)=>V.int (lo+(i:Int)))[i]? = some x):x = .int (lo+(i:Int))/\i<n:=by
 rw[A06] at h
 cases e:(List.range n)[i]? with
 |none=>rw[e] at h;cases h
 |some j=>
   rw[e] at h
   cases h;have F:=A03.mp e;obtain⟨h1,h2⟩:=F;rw[A1S] at h1;rw[List.getElem_range] at h2;subst h2;exact⟨rfl,h1⟩
def fI (F:Int->V):V->V
 |.int k=>F k
 |v=>v
def Ye {n:Nat}{F:Int->V}{G:Nat->Str}(h:∀ k<n,F (lo+(k:Int)) = .str (G k)):((List.range n).map λ(i:Nat)=>V.int (lo+(i:Int))).map (fI F)=((List.range n).map G).map V.str:=by rw[A1H,A1H];refine A2S λk O=>?_;exact h k (A28.mp O)
def To:LL.length<=sizeLine:=by rw[aw4,A0T];omega
def ExtBut.off {q:Addr}(e:ExtBut d H H1)(O:H q=none)(F:ExtBut q H1 H2):ExtBut d H H2:=λb o n h=>F b o (ne_of_none h O) (e b o n h)
def Same.off {q:Addr}(e:Same H H1)(O:H q=none)(F:ExtBut q H1 H2):Same H H2:=λb o h=>F b o (ne_of_none h O) (e b o h)
def Up (ls:List Str)(ps:List (Str×Str)):Prop:=∀ p∈ps,∃ i j:Nat,i<j/\ls[i]? = some p.1/\ls[j]? = some p.2
def Up.nil {ls:List Str}:Up ls []:=λ_ h=>by cases h
def str_at? {ls:List Str}{i:Int}(F:0<=i)(h1:i<ls.length):∃ z,ls[i.toNat]? = some z/\atI (ls.map V.str) i=some (.str z)/\atI ls i=some z:=by
 have h2:i.toNat<ls.length:=by omega
 refine⟨ls[i.toNat],A00 h2,?_,?_⟩
 . have:=Ag (xs:=ls.map V.str) (j:=i.toNat) (v:=.str ls[i.toNat]) (by rw[A06,A00 h2];rfl);rwa[A2R F] at this
 have:=Ag (A00 h2);rwa[A2R F] at this
theorem Ou {α:Type}:∀(us:List α) (k:Nat) (y:α),us[k]? = some y->(y :: us.eraseIdx k).Perm us
 | [],k,y,h=>by simp at h
 |u :: us,0,y,h=>by
   have:u=y:=by simpa using h
   subst this;exact List.Perm.refl _
 |u :: us,k+1,y,h=>by have F:=Ou us k y (by simpa using h);exact(List.Perm.swap u y _).trans (F.cons u)
def a79 {α:Type}{us:List α}{k:Nat}{y:α}(h:us[k]? = some y)(vs:List α):(vs++[y]++us.eraseIdx k).Perm (vs++us):=by rw[A2K];exact List.Perm.append_left vs (Ou us k y h)
def Pk {α:Type}{l:List α}{y:α}(h:i<l.length):l[i]? = some (l.getD i y):=by rw[A2C,A00 h];rfl
inductive Way (ps:List (Str×Str)):Str->Str->Prop
 |one {x y:Str}:(x,y)∈ps->Way ps x y
 |cons {x z y:Str}:(x,z)∈ps->Way ps z y->Way ps x y
def Way.trans {ps:List (Str×Str)}(h:Way ps x y)(g:Way ps y z):Way ps x z:=by
 induction h with
 |one e=>exact .cons e g
 |cons e _ ih=>exact .cons e (ih g)
def Way.left {ps:List (Str×Str)}(h:Way ps x y):x∈ps.map (·.1):=by
 cases h with
 |one e=>exact A0A.mpr ⟨_,e,rfl⟩
 |cons e _=>exact A0A.mpr ⟨_,e,rfl⟩
def Way.right {ps:List (Str×Str)}(h:Way ps x y):y∈ps.map (·.2):=by
 induction h with
 |one e=>exact A0A.mpr ⟨_,e,rfl⟩
 |cons _ _ ih=>exact ih
def Up.lt {ls:List Str}(hn:ls.Nodup){ps:List (Str×Str)}(h:Up ls ps)(g:Way ps x y):∃ i j:Nat,i<j/\ls[i]? = some x/\ls[j]? = some y:=by
 induction g with
 |one e=>exact h _ e
 |cons e _ ih=>
   obtain⟨i,j,h1,h2,U⟩:=h _ e;obtain⟨Y,Z,g1,F,O⟩:=ih
   have e:j=Y:=by obtain⟨a,b⟩:=A03.mp U;obtain⟨c,d⟩:=A03.mp F;exact(A1Z hn).mp (b.trans d.symm)
   exact⟨i,Z,by omega,h2,O⟩
def Up.irrefl {ls:List Str}(hn:ls.Nodup){ps:List (Str×Str)}(h:Up ls ps):¬ Way ps x x:=λg=>by obtain⟨i,j,h1,h2,F⟩:=h.lt hn g;obtain⟨a,b⟩:=A03.mp h2;obtain⟨c,d⟩:=A03.mp F;have:=(A1Z hn).mp (b.trans d.symm);omega
def Up.mem {ls:List Str}{ps:List (Str×Str)}(h:Up ls ps){p:Str×Str}(O:p∈ps):p.1∈ls/\p.2∈ls:=by obtain⟨i,j,_,h2,F⟩:=h p O;exact⟨A05 h2,A05 F⟩
structure Half (ns:List Str)(ps:List (Str×Str)):Prop where
 names:Names ns
 few:ns.length<=10
 le:ps.length<=60
 line:∃ ls:List Str,ls.Perm ns/\Up ls ps
theorem Half.irrefl {ns:List Str}{ps:List (Str×Str)}(h:Half ns ps):¬ Way ps x x:=by obtain⟨ls,h1,h2⟩:=h.line;exact h2.irrefl (h1.nodup_iff.mpr h.names.1)
theorem Half.mem {ns:List Str}{ps:List (Str×Str)}(h:Half ns ps){p:Str×Str}(F:p∈ps):p.1∈ns/\p.2∈ns:=by obtain⟨ls,h1,h2⟩:=h.line;have:=h2.mem F;exact⟨h1.mem_iff.mp this.1,h1.mem_iff.mp this.2⟩
def Half.way_mem {ns:List Str}{ps:List (Str×Str)}(h:Half ns ps)(g:Way ps x y):x∈ns/\y∈ns:=by
 constructor
 . obtain⟨p,F,e⟩:=A0A.mp g.left;exact e ▸ (h.mem F).1
 obtain⟨p,F,e⟩:=A0A.mp g.right;exact e ▸ (h.mem F).2
def Qp (ls:List Str):PyData.eqv (.list (ls.map PyData.str)) (.list [])=ls.isEmpty:=by cases ls<;>simp[PyData.eqv,PyData.eqvAll]
mutual
def D0:PyData->Bool
 |.none=>true
 |.bool _=>true
 |.str x=>PyData.strOk x
 |.list ds=>J5 ds
 |.tuple ds=>J5 ds
 |_=>false
def J5:List PyData->Bool
 | []=>true
 |d :: ds=>D0 d&&J5 ds
end
mutual
theorem Nh:∀ d:PyData,D0 d=true->d.canLay0=true
 |.none,_=>by simp only[PyData.canLay0]
 |.bool _,_=>by simp only[PyData.canLay0]
 |.str x,h=>by simpa only[PyData.canLay0,D0] using h
 |.list ds,h=>by simp only[PyData.canLay0];exact Ky ds (by simpa only[D0] using h)
 |.tuple ds,h=>by simp only[PyData.canLay0];exact Ky ds (by simpa only[D0] using h)
 |.int _,h=>by simp[D0] at h
 |.dict _,h=>by simp[D0] at h
theorem Ky:∀ ds:List PyData,J5 ds=true->PyData.canLayAll0 ds=true
 | [],_=>by simp only[PyData.canLayAll0]
 |d :: ds,h=>by simp only[J5,Bool.and_eq_true] at h;simp only[PyData.canLayAll0,Nh d h.1,Ky ds h.2,Bool.and_self]
end
def Vt (h:O0 z=true):PyData.strOk z=true/\z.cps.size<=8:=by unfold O0 at h;simp only[Bool.and_eq_true,decide_eq_true_eq] at h;refine⟨?_,h.1.2⟩;unfold PyData.strOk;rw[<- Array.all_toList,A0L];intro c F;have:=A0L.mp h.2 c F;unfold Kc at this;simp only[Bool.and_eq_true,decide_eq_true_eq] at this;exact A0D (by omega)
theorem Eu {α:Type}(f:α->PyData):∀ xs:List α,(∀ a∈xs,D0 (f a)=true)->J5 (xs.map f)=true
 | [],_=>by simp only[List.map_nil,J5]
 |x :: xs,h=>by simp only[List.map_cons,J5,h x List.mem_cons_self,Eu f xs λa ha=>h a (List.mem_cons_of_mem _ ha),Bool.and_self]
theorem E7 {α:Type}(f:α->PyData)(n:Nat):∀ xs:List α,(∀ a∈xs,(f a).depth<=n)->PyData.depthAll (xs.map f)<=n
 | [],_=>by simp only[List.map_nil,PyData.depthAll];omega
 |x :: xs,h=>by have h1:=h x A16;have h2:=E7 f n xs λa ha=>h a (A0I _ ha);simp only[List.map_cons,PyData.depthAll];omega
def Uc {p:Str×Str}(h1:O0 p.1=true)(h2:O0 p.2=true):D0 (prD p)=true/\(prD p).depth<=1/\(prD p).weight<=18:=by have a:=Vt h1;have b:=Vt h2;refine⟨by simp only[prD,D0,J5,a.1,b.1,Bool.and_self],by simp only[prD,PyData.depth,PyData.depthAll];omega,?_⟩;simp only[prD,PyData.weight,PyData.weightAll];omega
def NmP (ps:List (Str×Str)):Prop:=∀ p∈ps,O0 p.1=true/\O0 p.2=true
def a63 {ns:List Str}(h:∀ z∈ns,PyData.strOk z=true):SeqAt.shaped (.list (ns.map PyData.str))=true:=by
 unfold SeqAt.shaped;have e:(PyData.list (ns.map PyData.str)).canLay0=true:=Nh _ (by simp only[D0];exact Eu _ ns λz hz=>by simp only[D0];exact h z hz)
 have F:(PyData.list (ns.map PyData.str)).depth<=64:=by
  simp only[PyData.depth];have:=E7 PyData.str 0 ns λz hz=>by simp only[PyData.depth];omega
  omega
 rw[e,A0D F];rfl
def Half.nmP {ns:List Str}{ps:List (Str×Str)}(h:Half ns ps):NmP ps:=λp F=>⟨h.names.2 _ (h.mem F).1,h.names.2 _ (h.mem F).2⟩
theorem Be {α:Type}[DecidableEq α]:∀ {xs ys:List α},xs.Nodup->(∀ x∈xs,x∈ys)->xs.length<=ys.length
 | [],_,_,_=>A1W _
 |x :: xs,ys,h,hs=>by
   rw[A12] at h;have F:x∈ys:=hs x A16
   have O:=Be (xs:=xs) (ys:=ys.erase x) h.2 λz hz=>by refine(List.mem_erase_of_ne ?_).mpr (hs z (A0I _ hz));intro e;subst e;exact h.1 hz
   rw[List.length_erase_of_mem F] at O;have:0<ys.length:=List.length_pos_of_mem F;rw[A0X];omega
section
variable {c:TT}{σ:St}
def ad8 (W:Nat->St->Hp->Prop)(m:Nat)(O:W m σ H)
 (hs:∀ m σ H,W m σ H->c σ H λb H1=>if b=true then ∃ N:St->Hp->Prop,(∀ σ' H',N σ' H'->∃ F,F<m/\W F σ' H')/\tb {D with nx:=N,ct:=N,bk:=D.nx} σ H1 else D.nx σ H1):aa1 c tb D σ H:=⟨W,⟨m,O⟩,hs⟩
def aA3 {W:Nat->St->Hp->Prop}(h:tb {D with nx:=fun σ' H'=>∃ F,F<m/\W F σ' H',ct:=fun σ' H'=>∃ F,F<m/\W F σ' H',bk:=D.nx} σ H) :
 ∃ N:St->Hp->Prop,(∀ σ' H',N σ' H'->∃ F,F<m/\W F σ' H')/\tb {D with nx:=N,ct:=N,bk:=D.nx} σ H:=⟨_,λ_ _ h=>h,h⟩
end
section
variable {K:W.Frag}
def Ti:V->List V->Hp->VK->Prop:=λx vs H Q=>∃ d o kvs more,x = .ref d/\vs=[.ref o]/\d≠o/\H d=some (.dK kvs)/\H o=some (.dK more)/\kvs.length+more.length<=1000000/\Q .non (upd H d (.dK (F4 kvs more)))
theorem Xa:MtM X "dict.update" Ti:=by
 intro pins s σ H x vs v us Q I rx rv h;obtain⟨d,o,kvs,more,rfl,rfl,a6,Y,hO,hz,q⟩:=h
 cases rx;obtain⟨u,rfl,ru⟩:=rv.one
 cases ru;obtain⟨z1,a4,a1,Z,U⟩:=Ox I.hok Y;obtain⟨z2,a5,a2,a0,a3⟩:=Ox I.hok hO;have l1:kvs.length=a1.length:=Z.length;have l2:more.length=a2.length:=a0.length;refine call_meetsIn F.slot_dict_update U.typeIs F.entry_dict_update (F.args_dict_update_2 _ _) (meets_dict_update (Ax X.prog X.w) d o a6 a5) ⟨a1,a2,U,a3,Ak (by omega),λh' O _ hs=>?_⟩;have he:∃ q,h'.get? d=some q:=let ⟨q,_,_,hq,_⟩:=O;⟨q,hq⟩;refine⟨.non,_,Po I (by rw[Y];exact A23) hs he (V8 ?_ a4 (KV.merge a0 Z) O),rfl,q⟩;have:=Es more kvs;exact Ak (by omega)
end
def Nl:entryFor table "dict.update.loop" = some Builtin.«dict.update.loop»:=entryFor_of_tree (by kernel_rfl)
def Gu:plainId "dict.update.loop" = true:=by decide +kernel
def Rj:typeLookup (.type "list") "keys" = pure none:=by rw[typeLookup_type,builtinLookup_eq_fast];kernel_rfl
section
variable {prog:Program}{w:World}{κ:Type}[DecidableEq κ]{knd:KeyKind prog w κ}{A:Around}
theorem Xt {xs:Array Value}{k:Nat}{Q:Option Value->Shared->Prop}(U:s.heap.get? a=some {cls:=.type "list",data:=.seq xs k})(hA:A.handled=none)
 (h:∀ h' tk,(∀ b o,s.heap.get? b=some o->h'.get? b=some o)->Q none {s with heap:=h',toks:=tk}):wpAny (model prog w) A (getAttr? (.ref a) "keys") Q E s:=by
 obtain⟨hp,g,d,tk,os⟩:=s;have O:∀ Z,(⟨hp,g,d,Z,os⟩:Shared).TypeIs (.ref a) "list":=λ_=>⟨_,U,rfl⟩;have f1:=sub_AttributeError;have f3:=F.slot_list_getattribute.lookup;have f4:=F.slot_list_getattribute.bind (.ref a);have f5:=am_list_getattr_none;unfold getAttr? getAttrBy? getAttrBy
 repeat (any_goals (first | assumption | exact O _ | ((with_reducible show wpAny _ _ (call (Value.builtin "list.__getattribute__") _ _) _ _ _);refine A3M F.slot_list_getattribute (O _) am_entry_list_getattribute (F.args_list_getattribute_2 _ _) (meets_getattribute_miss_list a xs k #[] "keys" _ Rj (by decide +kernel) (by rw[A0T];decide +kernel)) ⟨U,hA,λh' Z e Y=>?_⟩) | wp_step))
 obtain⟨t',u',he⟩:=Y.there;show wpAny _ _ (getattributeRaised _ _ _ _ _ _ _) _ _ _;unfold getattributeRaised
 repeat (any_goals (first | assumption | wp_step))
 exact h _ _ Y.keeps
def Wc {t:Addr}{k v:Value}{Q:List Value->Shared->Prop}(U:IsTup s.heap t #[k,v])(h:Q [k,v] s):wpAny (model prog w) A (Builtin.Dict.pairItems (.ref t)) Q E s:=by obtain⟨o,F,O,n,hd⟩:=U;unfold Builtin.Dict.pairItems;refine A02 (A4M ⟨o,F,O⟩ ?_);rw[A0K ∅];refine A02 (A29 F hd ?_);exact A07 h
theorem Z4 {I D:Addr}{items:Array Value}(hh:A.in1.handled=none)(aH:l≠I)(Y:D≠I)(aC:D≠l)(pk:List (κ×Value×Addr×Value))(aG:pk.length=items.size)(hz:items.size<=1000000) :
 ∀(j i:Nat) (s:Shared) (R:Result->Shared->Prop),items.size-i=j->i<=items.size->s.heap.IsListIter I l i->s.heap.IsList l items ->
  s.heap.DictOf knd D (merged [] ((pk.take i).map λp=>(p.1,p.2.1))) ->
  (∀(n:Nat) (p:κ×Value×Addr×Value),pk[n]? = some p->items[n]? = some (Value.ref p.2.2.1)/\p.2.2.1≠I/\p.2.2.1≠D/\IsTup s.heap p.2.2.1 #[p.2.2.2,p.2.1]/\knd.is p.1 p.2.2.2=true) ->
  (∀ h' tk,h'.DictOf knd D (merged [] (pk.map λp=>(p.1,p.2.1)))->(∀ b o,b≠D->b≠I->s.heap.get? b=some o->h'.get? b=some o)->R (.ok (.ret .none)) {s with heap:=h',toks:=tk}) ->
  codeAny (model prog w) A (.builtin "dict.update.loop" ⟨[.ref D,.ref I,.int i 0,.none],[]⟩) R s:=by
 have W:=Walks.list (prog:=prog) (w:=w) hh I l aH items;intro j
 induction j with
 |zero=>
   intro i s R hj hi Z hL O hP hR;have aE:i=items.size:=by omega
   subst aE;refine A3Z Nl ?_;rw[A3W Gu _];show wpAny _ A.in1 (pyNext (.ref I) >>= _) _ _ s;refine A02 (W.done s _ _ ⟨Z,hL⟩ λh' tk hm=>?_);show wpAny _ A.in1 (Builtin.Dict.addKeywords D [] >>= _) _ _ _;refine wpAny_bind (wpAny_pure (wpAny_pure (hR h' tk ?_ λb o hb aD e=>hm b o (by simpa using aD) e)));rw[<- aG,A14] at O;obtain⟨o,es,U,F,r⟩:=O;exact⟨o,es,U,hm D o (by simpa using Y) F,r⟩
 |succ j ih=>
   intro i s R hj hi Z hL O hP hR;have a4:i<items.size:=by omega
   obtain⟨p,hp⟩:∃ p,pk[i]? = some p:=⟨pk[i]'(by omega),A00 _⟩;obtain⟨q1,q2,q3,q4,q5⟩:=hP i p hp;refine A3Z Nl ?_;rw[A3W Gu _];show wpAny _ A.in1 (pyNext (.ref I) >>= _) _ _ s;refine A02 (W.item i s _ _ a4 ⟨Z,hL⟩ λv h' tk hv a6 hm=>?_)
   have aK:v = .ref p.2.2.1:=by have a7:items[i]? = some v:=hv;rw[q1] at a7;exact(A10 a7).symm
   subst aK
   have aJ:IsTup h' p.2.2.1 #[p.2.2.2,p.2.1]:=by obtain⟨o,F,r⟩:=q4;exact⟨o,hm _ o (by simpa using q2) F,r⟩
   have a9:h'.DictOf knd D (merged [] ((pk.take i).map λp=>(p.1,p.2.1))):=by obtain⟨o,es,U,F,r⟩:=O;exact⟨o,es,U,hm D o (by simpa using Y) F,r⟩
   show wpAny _ A.in1 (holding [Value.ref p.2.2.1] _ >>= _) _ _ _;refine A02 (A19 ?_);refine A02 (wpAny_tryCatch (Wc aJ ?_));show wpAny _ A.in1 (holding [p.2.2.2,p.2.1] (dictSet D p.2.2.2 p.2.1)) _ _ _;refine A19 (wpAny_dictSet_pairs q5 a9 (λa8 aA hs=>?_) ?_)
   . refine A07 ⟨plainId_quiet Gu _,?_⟩;have a0:∀ b o,b≠D->b≠I->s.heap.get? b=some o->a8.get? b=some o:=λb o h1 h2 e=>(hs.2 b h1).trans (hm b o (by simpa using h2) e);refine ih (i+1) _ R (by omega) a4 ?_ ?_ ?_ (λn p' aI=>?_) λh3 aL aB aF=>hR h3 aL aB λb o h1 h2 e=>aF b o h1 h2 (a0 b o h1 h2 e)
     . exact a6.1.at λo e=>(hs.2 I (Ne.symm Y)).trans e
     . exact a6.2.at λo e=>(hs.2 l (Ne.symm aC)).trans e
     . have e:merged [] ((pk.take (i+1)).map λp=>(p.1,p.2.1))=stored (merged [] ((pk.take i).map λp=>(p.1,p.2.1))) p.1 p.2.1:=by rw[A0U,hp];unfold merged;rw[A0R,List.foldl_append];rfl
       rw[e];exact aA
     obtain⟨a1,a2,a3,⟨o,F,r⟩,a5⟩:=hP n p' aI;exact⟨a1,a2,a3,⟨o,a0 _ o a3 a2 F,r⟩,a5⟩
   refine A0M (merged_length_le _ _) (Ak ?_);rw[A01,A0S];simp;omega
theorem Mj {items:Array Value}{n:Nat}{Q:Value->Shared->Prop}(hl:s.heap.get? l=some {cls:=.type "list",data:=.seq items n})(hA:A.handled=none)(pk:List (κ×Value×Addr×Value))(a7:pk.length=items.size)(hz:items.size<=1000000)
 (hP:∀(n:Nat) (p:κ×Value×Addr×Value),pk[n]? = some p->items[n]? = some (Value.ref p.2.2.1)/\IsTup s.heap p.2.2.1 #[p.2.2.2,p.2.1]/\knd.is p.1 p.2.2.2=true)
 (h:∀ h' tk,h'.DictOf knd s.heap.objs.size (merged [] (pk.map λp=>(p.1,p.2.1)))->(∀ b o,s.heap.get? b=some o->h'.get? b=some o)->Q (.ref s.heap.objs.size) {s with heap:=h',toks:=tk}) :
 wpAny (model prog w) A (call (.type "dict") [.ref l]) Q E s:=by
 refine callType_codes (Q₁:=λobj s₁=>obj = .ref s.heap.objs.size/\s₁={s with heap:=s.heap.push {cls:=.type "dict",data:=.dict #[]}}) F.kt_called_dict (F.kt_typeCall_dict_1 _) F.entry_dict_init (kt_code_dict_new _ ⟨rfl,rfl⟩) ?_
 rintro obj s₁ ⟨rfl,rfl⟩;have a0:(s.heap.push {cls:=.type "dict",data:=.dict #[]}).DictOf knd s.heap.objs.size []:=Heap.DictOf.new s.heap;have Z:(s.heap.push {cls:=.type "dict",data:=.dict #[]}).get? l=some {cls:=.type "list",data:=.seq items n}:=A04 _ hl;have a5:l<s.heap.objs.size:=A09 hl;refine⟨a0.typeIs,F.args_dict_init_2 _ _,?_⟩;unfold Builtin.«dict.__init__»;refine A02 ?_;unfold Builtin.Dict.selfAndRest;refine A02 (A4Q a0.typeIs ?_);show wpAny _ _ (pure (s.heap.objs.size,[Value.ref l])) _ _ _;refine A07 ?_;show wpAny _ _ (Builtin.Dict.updateFrom "dict.__init__" s.heap.objs.size (.ref l) [] .none) _ _ _;unfold Builtin.Dict.updateFrom;refine A02 (A4M ⟨_,Z,rfl⟩ ?_);rw[A0K ∅];refine wpAny_bind (Xt Z (by simpa using hA) λh1 a8 Y=>?_);have a6:h1.get? l=some {cls:=.type "list",data:=.seq items n}:=Y _ _ Z;rw[A0K (show(none:Option Value).isNone=true from rfl)]
 have a2:h1.DictOf knd s.heap.objs.size []:=by obtain⟨o,es,ep,O,r⟩:=a0;exact⟨o,es,ep,Y _ _ O,r⟩
 have hsz:s.heap.objs.size<h1.objs.size:=by obtain⟨o,es,ep,O,r⟩:=a2;exact A09 O
 refine A02 (A4T ?_);have a4:h1.IsList l items:=⟨_,a6,rfl,n,rfl⟩;refine A02 (A2A a4 ?_);refine A07 ⟨plainId_quiet Gu _,?_⟩;have kp:∀ b o,s.heap.get? b=some o->(h1.push {cls:=.type "list_iterator",data:=.fields #[.ref l,.int 0 0]}).get? b=some o:=λb o e=>A04 _ (Y _ _ (A04 _ e));refine Z4 (knd:=knd) (A:=A.in1) (I:=h1.objs.size) (D:=s.heap.objs.size) (l:=l) (items:=items) (by simpa using hA) (Nat.ne_of_lt (Nat.lt_trans a5 hsz)) (Nat.ne_of_lt hsz) (Nat.ne_of_gt a5) pk a7 hz items.size 0 _ _ (Nat.sub_zero _) (Nat.zero_le _) ⟨_,Heap.get?_push_size _ rfl,rfl,rfl⟩ (a4.push _) ?_ (λm p hp=>?_) λh' tk hD hk=>?_
 . exact a2.push _
 . obtain⟨a1,⟨o,O,r⟩,a3⟩:=hP m p hp;have U:=A09 O;exact⟨a1,A0N (A3Q U hsz),A0N U,⟨o,kp _ _ O,r⟩,a3⟩
 refine⟨rfl,h h' tk hD λb o e=>?_⟩;have U:=A09 e;exact hk b o (A0N U) (A0N (A3Q U hsz)) (kp b o e)
end
def PrsK (K:W.Frag)(H:Hp):List (Key×V)->List V->Prop
 | [],ys=>ys=[]
 |kv :: r,ys=>∃ t F,ys = .ref t :: F/\SqT K H t [kV kv.1,kv.2]/\PrsK K H r F
theorem PrsK.pk {X:Cx}{pins:List (Addr×Obj)}{σ:St}{H:Hp}{s:Shared}(I:Inv X pins σ H s):∀(kvs:List (Key×V)) (ys:List V) (its:List Value),PrsK X.K H kvs ys->Vals ys its ->
 ∃ pk:List (Key×Value×Addr×Value),pk.length=its.length/\KV kvs (pk.map λp=>(p.1,p.2.1))/\∀(n:Nat) (p:Key×Value×Addr×Value),pk[n]? = some p->its[n]? = some (Value.ref p.2.2.1)/\IsTup s.heap p.2.2.1 #[p.2.2.2,p.2.1]/\(Ax X.prog X.w).is p.1 p.2.2.2=true
 | [],ys,its,h,v=>by
   have h':ys=[]:=h;subst h'
   cases v;exact ⟨[],rfl,.nil,λn p F=>by simp at F⟩
 |kv :: r,ys,its,h,v=>by
   obtain⟨t,a0,rfl,h2,Z⟩:=h
   cases v with
   |cons v1 v2=>
     obtain⟨pk,l1,l2,l3⟩:=PrsK.pk I r a0 _ Z v2
     cases v1;obtain ⟨a2,rv,ht,_⟩:=I.tuple h2;obtain⟨O,val,rfl,U,Y⟩:=Vals.two rv;refine⟨(kv.1,val,t,O) :: pk,by simp[l1],.cons ⟨rfl,Y⟩ l2,λn p F=>?_⟩
     cases n with
     |zero=>have:p=(kv.1,val,t,O):=(Option.some.inj (by simpa using F)).symm;subst this;exact⟨rfl,ht,Ha U⟩
     |succ n=>exact l3 n p (by simpa using F)
section
variable {K:W.Frag}
def a04 (K:W.Frag):List V->Hp->VK->Prop:=λxs H Q=>∃ l ys kvs,xs=[V.ref l]/\H l=some (.lst ys)/\PrsK K H kvs ys/\ys.length<=1000000/\kvs.length<=1000000/\∀ p,H p=none->Q (.ref p) (upd H p (.dK (F4 [] kvs)))
theorem Wf (hr:X.A.handled=none):CallR X (.type "dict") (a04 X.K):=by
 intro pins s σ H xs us Q I rv h;obtain⟨l,ys,kvs,rfl,hl,F,hz,a0,q⟩:=h;obtain⟨u,rfl,ru⟩:=rv.one
 cases ru;obtain⟨z,a4,n,r,a5,e⟩:=I.lstM hl;obtain⟨pk,l1,l2,l3⟩:=PrsK.pk I kvs ys a4 F r;refine Mj (knd:=Ax X.prog X.w) e hr pk (by simpa using l1) (by simp;omega) (λn p F=>?_) λh' tk Z hk=>?_
 . obtain⟨O,U,Y⟩:=l3 n p F;exact⟨by simpa using O,U,Y⟩
 refine⟨.ref s.heap.objs.size,_,I.laid hk (A0B _) (V8 ?_ ?_ (KV.merge l2 .nil) Z),rfl,q _ (I.hok.fresh (A0B _))⟩
 . have:=Es kvs [];exact Ak (by simpa using Nat.le_trans this (by simpa using a0))
 exact A11.mpr (A2O I.big)
def Iq (O:X.A.handled=none)(F:X.K=K:=by ac_nf):CallR X (.type "dict") (a04 K):=F ▸ Wf O
end
def Eb (ns:List Str)(as:List Addr):List (Key×V):=(ns.zip as).map λp=>(Sum.inr p.1,V.ref p.2)
def Em (ks:List Str):List (Key×V):=ks.map λy=>(Sum.inr y,V.bl true)
theorem Dz:∀ {ns:List Str} {as:List Addr} {i:Nat} {z:Str} {a:Addr},ns.Nodup->ns[i]? = some z->as[i]? = some a->Gq (Eb ns as) (Sum.inr z:Key)=some (.ref a)
 | [],_,i,_,_,_,h,_=>by simp at h
 |n :: ns,[],i,_,_,_,_,h=>by simp at h
 |n :: ns,b :: as,0,z,a,_,h,g=>by simp at h g;subst h g;exact Kg rfl
 |n :: ns,b :: as,i+1,z,a,hn,h,g=>by
   rw[A12] at hn;have h':ns[i]? = some z:=by simpa using h
   have ne:¬ (Sum.inr n:Key)=Sum.inr z:=by
    intro e;have F:n=z:=by injection e
    subst F;exact hn.1 (A05 h')
   show Gq ((Sum.inr n,V.ref b) :: Eb ns as) _=_;rw[Kd ne];exact Dz hn.2 h' (by simpa using g)
theorem G7 (y:Str):∀ ks:List Str,Gq (Em ks) (Sum.inr y:Key)=if y∈ks then some (.bl true) else none
 | []=>by simp[Em,a45]
 |k :: ks=>by
   show Gq ((Sum.inr k,V.bl true) :: Em ks) _=_
   by_cases e:k=y
   . subst e;rw[Kg rfl,A0K A16]
   rw[Kd (by intro q;injection q with q;exact e q),G7 y ks]
   have:(y∈k :: ks)↔y∈ks:=by simp[Ne.symm e]
   simp only[this]
def a16 (ks:List Str)(y:Str):List Str:=if y∈ks then ks else ks++[y]
def mem_addK:z∈a16 ks y↔z∈ks\/z=y:=by
 unfold a16
 split
 . constructor
   . exact .inl
   rintro(h|rfl)
   . exact h
   assumption
 simp
def Oi (h:ks.Nodup):(a16 ks y).Nodup:=by
 unfold a16
 split
 . exact h
 rename_i hy;rw[A33];refine⟨h,by simp,λa ha b F e=>?_⟩;have:b=y:=by simpa using F
 subst this;subst e;exact hy ha
def ah5 (y:Str)(ks:List Str):((Em ks).any λkv=>decide (kv.1=(Sum.inr y:Key)))=decide (y∈ks):=by
 induction ks with
 |nil=>simp[Em]
 |cons k ks ih=>
   show(decide ((Sum.inr k:Key)=Sum.inr y)||(Em ks).any _)=_
   rw[ih]
   by_cases e:k=y
   . subst e;simp
   have F:¬ (Sum.inr k:Key)=Sum.inr y:=by intro q;injection q with q;exact e q
   simp[F,Ne.symm e]
def Ww (ks:List Str)(y:Str):Io (Em ks) (Sum.inr y:Key) (.bl true)=Em (a16 ks y):=by
 unfold Io a16;rw[ah5]
 by_cases h:y∈ks
 . rw[A0K (A0D h),A0K h];unfold Em;rw[A1H];refine A2S λk _=>?_;show(if(Sum.inr k:Key)=Sum.inr y then(Sum.inr k,V.bl true) else(Sum.inr k,V.bl true))=_
   split<;>rfl
 rw[if_neg (by simpa using h),if_neg h];unfold Em;rw[A0R];rfl
def Cp (ks ms:List Str):List Str:=ms.foldl a16 ks
theorem Qg:∀(ms ks:List Str),F4 (Em ks) (Em ms)=Em (Cp ks ms)
 | [],ks=>rfl
 |m :: ms,ks=>by show F4 (Io (Em ks) (Sum.inr m) (.bl true)) (Em ms)=_;rw[Ww,Qg ms];rfl
theorem mem_addAll:∀ {ms ks:List Str} {z:Str},z∈Cp ks ms↔z∈ks\/z∈ms
 | [],ks,z=>by simp[Cp]
 |m :: ms,ks,z=>by show z∈Cp (a16 ks m) ms↔_;rw[mem_addAll,mem_addK,A0G,or_assoc]
theorem E8:∀ {ms ks:List Str},ks.Nodup->(Cp ks ms).Nodup
 | [],ks,h=>h
 |m :: ms,ks,h=>E8 (ms:=ms) (Oi h)
def Gc (ks:List Str):(Em ks).length=ks.length:=by simp[Em]
theorem He:∀(kvs acc:List (Key×V)),(kvs.map (·.1)).Nodup->(∀ k∈kvs,∀ q∈acc,q.1≠k.1)->F4 acc kvs=acc++kvs
 | [],acc,_,_=>by simp[F4]
 |k :: kvs,acc,hn,hd=>by
   show F4 (Io acc k.1 k.2) kvs=_
   have e:Io acc k.1 k.2=acc++[k]:=by
    unfold Io
    have:¬ (acc.any λkv=>decide (kv.1=k.1))=true:=by rw[A2U];rintro⟨q,F,e⟩;exact hd k A16 q F (A13 e)
    rw[A0J this]
   rw[A0P,A12] at hn;rw[e,He kvs (acc++[k]) hn.2 λx O q F=>?_,A2K]
   . rfl
   rcases A0O.mp F with F|F
   . exact hd x (A0I _ O) q F
   have:q=k:=by simpa using F
   subst this;intro e;exact hn.1 (A0A.mpr ⟨x,O,e.symm⟩)
structure Tab (H:Hp)(r:Addr)(ns:List Str)(as:List Addr)(R:Str->Str->Prop):Prop where
 len:as.length=ns.length
 nd:as.Nodup
 nr:r∉as
 top:H r=some (.dK (Eb ns as))
 row:∀(i:Nat) (z:Str) (a:Addr),ns[i]? = some z->as[i]? = some a->∃ ks:List Str,H a=some (.dK (Em ks))/\ks.Nodup/\(∀ y∈ks,y∈ns)/\∀ y,y∈ks↔R z y
def Tab.same {ns:List Str}{R:Str->Str->Prop}(h:Tab H r ns as R)(e:Same H H'):Tab H' r ns as R:=
 ⟨h.len,h.nd,h.nr,e _ _ h.top,λi z a hz ha=>let ⟨ks,h1,h2⟩:=h.row i z a hz ha;⟨ks,e _ _ h1,h2⟩⟩
def Tab.congr {ns:List Str}{R R':Str->Str->Prop}(h:Tab H r ns as R)(e:∀ z∈ns,∀ y,R z y↔R' z y):Tab H r ns as R':=
 ⟨h.len,h.nd,h.nr,h.top,λi z a hz ha=>let ⟨ks,h1,h2,h3,h4⟩:=h.row i z a hz ha;⟨ks,h1,h2,h3,λy=>(h4 y).trans (e z (A05 hz) y)⟩⟩
theorem Tab.put {b:Addr}{ns:List Str}{R R':Str->Str->Prop}(h:Tab H r ns as R)(e:ExtBut b H H'){j:Nat}(hn:ns.Nodup)(U:ns[j]? = some x)(F:as[j]? = some b)
 (hk:H' b=some (.dK (Em ks))) (k1:ks.Nodup) (k2:∀ y∈ks,y∈ns) (k3:∀ y,y∈ks↔R' x y) (k4:∀ z∈ns,z≠x->∀ y,R z y↔R' z y):Tab H' r ns as R':=by
 refine⟨h.len,h.nd,h.nr,e _ _ (λq=>h.nr (q ▸ A05 F)) h.top,λi z a hz ha=>?_⟩
 by_cases O:i=j
 . subst O;rw[hz] at U
   cases U;rw[ha] at F
   cases F;exact⟨ks,hk,k1,k2,k3⟩
 obtain⟨ms,h1,h2,Z,h4⟩:=h.row i z a hz ha
 have a0:a≠b:=by intro q;subst q;obtain⟨p1,p2⟩:=A03.mp ha;obtain⟨q1,Y⟩:=A03.mp F;exact O ((A1Z h.nd).mp (p2.trans Y.symm))
 have a1:z≠x:=by intro q;subst q;obtain⟨p1,p2⟩:=A03.mp hz;obtain⟨q1,Y⟩:=A03.mp U;exact O ((A1Z hn).mp (p2.trans Y.symm))
 exact⟨ms,e _ _ a0 h1,h2,Z,λy=>(h4 y).trans (k4 z (A05 hz) a1 y)⟩
def Tab.at {ns:List Str}{R:Str->Str->Prop}(h:Tab H r ns as R)(O:x∈ns):∃(i:Nat) (a:Addr),ns[i]? = some x/\as[i]? = some a:=by
 obtain⟨i,hi,e⟩:=A1I O;have F:i<as.length:=by rw[h.len];exact hi
 exact⟨i,as[i],by rw[A00 hi,e],A00 F⟩
section
variable {K:W.Frag}{ns:List Str}{R:Str->Str->Prop}
def Vn (h:Tab H r ns as R)(hn:ns.Nodup)(F:ns[i]? = some x)(ha:as[i]? = some a)(k:Q (.ref a) H):Qb K (.ref r) (.str x) H Q:=i_ixD h.top (Dz hn F ha) k
def ak5 (h:H a=some (.dK (Em ks)))(k:Q (.bl (decide (y∈ks))) H):Sq K false (.str y) (.ref a) H Q:=by
 refine .inr (.inr (.inl ⟨a,Gq (Em ks) (Sum.inr y:Key),rfl,DGet.k (k:=Sum.inr y) h,?_⟩));rw[G7]
 by_cases e:y∈ks
 . rw[if_pos e];simpa[e] using k
 rw[if_neg e];simpa[e] using k
def ax6 (h:H a=some (.dK kvs))(k:B):tyV K "dict" (.ref a) H/\B:=⟨.inr (.inr (.inl ⟨rfl,.inl ⟨kvs,h⟩⟩)),k⟩
def aD8 {o:Addr}(hd:H d=some (.dK (Em ks)))(O:H o=some (.dK (Em ms)))(F:d≠o)(hz:ks.length+ms.length<=1000000)(k:∀ H',ExtBut d H H'->H' d=some (.dK (Em (Cp ks ms)))->Q .non H'):Ti (.ref d) [.ref o] H Q:=
 ⟨d,o,_,_,rfl,rfl,F,hd,O,by rw[Gc,Gc];exact hz,k _ ExtBut.upd (by rw[Aj,Qg])⟩
end
structure HalfW (ns:List Str)(ps:List (Str×Str)):Prop where
 nd:ns.Nodup
 mem:∀ p∈ps,p.1∈ns/\p.2∈ns
 irr:∀ x,¬ Way ps x x
 few:ns.length<=100
 le:ps.length<=1000
def Half.w {ns:List Str}{ps:List (Str×Str)}(h:Half ns ps):HalfW ns ps:=⟨h.names.1,λp F=>h.mem F,λ_=>h.irrefl,A0M h.few ∅,A0M h.le ∅⟩
structure War (ns:List Str)(ps:List (Str×Str))(ms:List Str)(R:Str->Str->Prop):Prop where
 snd:∀ z y,R z y->Way ps z y
 edge:∀ z y,(z,y)∈ps->R z y
 shut:∀ m∈ms,∀ z y,R z m->R m y->R z y
def aa2 (R:Str->Str->Prop)(F:Str)(ms:List Str)(z y:Str):Prop:=R z y\/(z∈ms/\R z F/\R F y)
theorem War.step {ns:List Str}{ps:List (Str×Str)}{R:Str->Str->Prop}(h:War ns ps ms R){O:Str}:War ns ps (ms++[O]) (λz y=>R z y\/(R z O/\R O y)):=by
 refine⟨λz y hz=>?_,λz y hz=>.inl (h.edge z y hz),λm hm z y h1 h2=>?_⟩
 . rcases hz with hz|⟨h1,h2⟩
   . exact h.snd z y hz
   exact(h.snd _ _ h1).trans (h.snd _ _ h2)
 rcases A0O.mp hm with hm|hm
 . rcases h1 with h1|⟨h1,U⟩
   . rcases h2 with h2|⟨h2,F⟩
     . exact .inl (h.shut m hm z y h1 h2)
     exact .inr ⟨h.shut m hm z O h1 h2,F⟩
   rcases h2 with h2|⟨h2,F⟩
   . exact .inr ⟨h1,h.shut m hm O y U h2⟩
   exact .inr ⟨h1,F⟩
 have e:m=O:=by simpa using hm
 subst e;rcases h1 with h1|⟨h1,U⟩
 . rcases h2 with h2|⟨h2,F⟩
   . exact .inr ⟨h1,h2⟩
   exact .inr ⟨h1,F⟩
 rcases h2 with h2|⟨h2,F⟩
 . exact .inr ⟨h1,h2⟩
 exact .inr ⟨h1,F⟩
def War.done {ns:List Str}{ps:List (Str×Str)}{R:Str->Str->Prop}(h:War ns ps ns R)(hm:∀ p∈ps,p.1∈ns/\p.2∈ns)(z y:Str):R z y↔Way ps z y:=by
 refine⟨h.snd z y,λg=>?_⟩
 induction g with
 |one e=>exact h.edge _ _ e
 |cons e _ ih=>exact h.shut _ (hm _ e).2 _ _ (h.edge _ _ e) ih
theorem PrsK.fz {K:W.Frag} {H H':Hp} (e:Fz H H'):∀ {kvs:List (Key×V)} {ys:List V},PrsK K H kvs ys->PrsK K H' kvs ys
 | [],_,h=>h
 |kv :: r,ys,⟨t,ys',h1,h2,h3⟩=>⟨t,ys',h1,e.seq h2,PrsK.fz e h3⟩
theorem PrsK.snoc {K:W.Frag}{H:Hp}{kv:Key×V}{t:Addr}(h:SqT K H t [kV kv.1,kv.2]):∀ {kvs:List (Key×V)} {ys:List V},PrsK K H kvs ys->PrsK K H (kvs++[kv]) (ys++[.ref t])
 | [],ys,g=>by have g':ys=[]:=g;subst g';exact⟨t,[],rfl,h,rfl⟩
 |k :: r,ys,⟨u,ys',h1,h2,h3⟩=>by subst h1;exact⟨u,ys'++[.ref t],rfl,h2,PrsK.snoc h h3⟩
theorem PrsK.length {K:W.Frag}{H:Hp}:∀ {kvs:List (Key×V)} {ys:List V},PrsK K H kvs ys->ys.length=kvs.length
 | [],ys,g=>by have g':ys=[]:=g;subst g';rfl
 |k :: r,ys,⟨u,ys',h1,h2,h3⟩=>by subst h1;simp[PrsK.length h3]
def U4 {K:W.Frag}(h:H l=some (.lst ys))(g:PrsK K H kvs ys)(hz:kvs.length<=1000000)(k:∀ p H',H p=none->Same H H'->H' p=some (.dK (F4 [] kvs))->Q (.ref p) H'):a04 K [.ref l] H Q:=
 ⟨l, ys,kvs,rfl,h,g,by rw[g.length];exact hz,hz,λp F=>k p _ F (Same.upd F) Aj⟩
theorem Kk:∀ {ns:List Str} {as:List Addr},ns.Nodup->((Eb ns as).map (·.1)).Nodup
 | [],as,_=>by simp[Eb]
 |n :: ns,[],_=>by simp[Eb]
 |n :: ns,a :: as,h=>by
   rw[A12] at h;show((Sum.inr n:Key) :: (Eb ns as).map (·.1)).Nodup;rw[A12];refine⟨λhm=>?_,Kk h.2⟩;obtain⟨kv,O,e⟩:=A0A.mp hm;obtain⟨p,U,rfl⟩:=A0A.mp O;have F:p.1=n:=by injection e
   exact h.1 (F ▸ (A4L U).1)
def Pg {ns:List Str}(h:ns.length=as.length):Eb (ns++[z]) (as++[a])=Eb ns as++[(Sum.inr z,V.ref a)]:=by unfold Eb;rw[List.zip_append h,A0R];rfl
end L2
namespace L2
open PySem PySem.Spec PyProof.Rows
open Classical in
def Ck (ps:List (Str×Str))(x y:Str):Bool:=decide (Way ps x y)
def wayB_iff {ps:List (Str×Str)}{x y:Str}:Ck ps x y=true↔Way ps x y:=by unfold Ck;simp
def Ot {ps:List (Str×Str)}{x y:Str}(h:¬ Way ps x y):Ck ps x y=false:=by
 cases hb:Ck ps x y with
 |false=>rfl
 |true=>exact absurd (wayB_iff.mp hb) h
def iteR {α:Type}{a:α}{A B:Prop}[Decidable (a=a)](h:A):if decide (a=a)=true then A else B:=by rw[if_pos (by simp)];exact h
def iteNR {α:Type}{a:α}{A B:Prop}[Decidable (a=a)](h:B):if(!decide (a=a))=true then A else B:=by rw[if_neg (by simp)];exact h
section
variable {K:W.Frag}{H:Hp}{σ:St}{x:V}{Q:VK}
theorem P0 {ns:List Str}{g:TG}{tt:TT}{te:TE}{k:Nat}{js:List Nat}(h:Is K H (nmD ns) x)(t:Str->Bool)(f:Str->PyData)(hf:∀ a,frz (f a)=true)(hz:ns.length<=1000000)
 (hs:∀(i:Nat) a H1 (R:VK) (R':Hp->Prop),ns[i]? = some a->Same H H1->(t a=true->∀ y H2,Same H1 H2->Is K H2 (f a) y->R y H2)->(t a=false->∀ H2,Same H1 H2->R' H2) ->
  g (.str a) (List.replicate k none++Mm σ js) H1 fun σ2 H2=>tt σ2 H2 λb F=>if b=true then te σ2 F R else R' F)
 (hd:∀ p ys H',H p=none->Same H H'->H' p=some (.lst ys)->IsL K H' ((ns.filter t).map f) ys->Q (.ref p) H'):Fa K x H λJ H1=>Kw k js g tt te σ J H1 Q:=by
 obtain⟨a,rfl,O⟩:=h.nm;refine Ix O (C4 (K:=K) (By (xs:=ns.map V.str)) ns (by simp) t f hf (by simpa using hz) (λH' e=>e.seqT O) (λi z v H1 R R' hz U e Y Z=>?_) hd);rw[A06,hz] at U
 cases U;exact hs i z H1 R R' hz e Y Z
theorem Pt {ns:List Str}{a:Addr}{g:TG}{tt:TT}{te:TE}{k:Nat}{js:List Nat}(h:SqL K H a (ns.map V.str))(t:Str->Bool)(f:Str->PyData)(hf:∀ a,frz (f a)=true)(hz:ns.length<=1000000)
 (hs:∀(i:Nat) a H1 (R:VK) (R':Hp->Prop),ns[i]? = some a->Same H H1->(t a=true->∀ y H2,Same H1 H2->Is K H2 (f a) y->R y H2)->(t a=false->∀ H2,Same H1 H2->R' H2) ->
  g (.str a) (List.replicate k none++Mm σ js) H1 fun σ2 H2=>tt σ2 H2 λb F=>if b=true then te σ2 F R else R' F)
 (hd:∀ p ys H',H p=none->Same H H'->H' p=some (.lst ys)->IsL K H' ((ns.filter t).map f) ys->Q (.ref p) H'):Fa K (.ref a) H λJ H1=>Kw k js g tt te σ J H1 Q:=by
 refine Hq h (C4 (K:=K) (Bc (xs:=ns.map V.str)) ns (by simp) t f hf (by simpa using hz) (λH' e=>e.seq h) (λi z v H1 R R' hz O e U Y=>?_) hd);rw[A06,hz] at O
 cases O;exact hs i z H1 R R' hz e U Y
end
end L2
namespace L2
open PySem PySem.Spec PyProof.Rows
open AutoSeq1 (wpAny_loadPart')
variable {items:Array Value}{Q:Value->Shared->Prop}
section
variable {prog:Program}{w:World}{A:Around}{E:Value->Shared->Prop}{s:Shared}
theorem ai5 {it t:Addr}{i:Nat}{x:Value}(Y:s.heap.IsTupleIter it t i)(ht:s.heap.IsTuple t items)(hx:items[i]? = some x)
 (Z:∀ h',h'.IsTupleIter it t (i+1)->Heap.SameBut it s.heap h'->Q x {s with heap:=h'}):wpAny (model prog w) A (Builtin.SmallTypes.nextOf (.ref it)) Q E s:=by
 obtain⟨o,U,o2,O⟩:=id Y;obtain⟨u,u1,_,n,u2⟩:=ht;unfold Builtin.SmallTypes.nextOf;refine A02 (A25 (name:=Str.ofString "__next__") Y.typeIs F.slot_tuple_iterator_next (A24 F.slot_tuple_iterator_next Y.typeIs F.entry_tuple_iterator_next ?_ (F.args_tuple_iterator_next_1 _)));refine A02 (m:=field (.ref it) 0) (A1E U O (x:=.ref t) rfl ?_);rw[A0J (show ¬ ((Value.ref t==Value.none)=true) by intro h;cases h)];refine A02 (m:=field (.ref it) 1) (A1E U O (x:=.int i 0) rfl ?_);refine A02 (m:=seqItems? (.ref t)) (A29 u1 u2 ?_);simp only[Int.toNat_natCast,hx];refine wpAny_bind (wpAny_setField U O (by simp) (wpAny_pure ⟨x,rfl,wpAny_pure (Z _ ⟨_,Heap.get?_update_self _ U (Obj.isFreed_of_fields (Obj.data_mapFields O _)),(Obj.cls_mapFields ..).trans o2,?_⟩ (Heap.SameBut.update ..))⟩));rw[A46 O];simp[rawInt]
theorem av1 {it t:Addr}{i:Nat}(Z:A.handled=none)(O:s.heap.IsTupleIter it t i)(ht:s.heap.IsTuple t items)(hx:items[i]? = none)
 (hE:∀ h' e,Heap.ExtBut it s.heap h'->(∃ o,h'.get? e=some o/\o.cls = .type "StopIteration")->E (.ref e) {s with heap:=h'}):wpAny (model prog w) A (Builtin.SmallTypes.nextOf (.ref it)) Q E s:=by
 obtain⟨o,U,o2,Y⟩:=id O;obtain⟨u,u1,_,n,u2⟩:=ht;unfold Builtin.SmallTypes.nextOf;refine A02 (A25 (name:=Str.ofString "__next__") O.typeIs F.slot_tuple_iterator_next (A24 F.slot_tuple_iterator_next O.typeIs F.entry_tuple_iterator_next ?_ (F.args_tuple_iterator_next_1 _)));refine A02 (m:=field (.ref it) 0) (A1E U Y (x:=.ref t) rfl ?_);rw[A0J (show ¬ ((Value.ref t==Value.none)=true) by intro h;cases h)];refine A02 (m:=field (.ref it) 1) (A1E U Y (x:=.int i 0) rfl ?_);refine A02 (m:=seqItems? (.ref t)) (A29 u1 u2 ?_);simp only[Int.toNat_natCast,hx];refine wpAny_bind (wpAny_rule (wpAny_bind (wpAny_setField U Y (by simp) ?_)));refine A02 (m:=newExc (.type "StopIteration") []) ?_;simp only[newExc,newTuple];refine A02 (A2J ?_ (by size_fits));refine wpAny_bind (m:=firstArgMember _ _) (wpAny_of_eq (a:=Value.none) (by first | rfl | (simp only[firstArgMember];rfl)) (wpAny_newObj_type ?_ (by size_fits)))
 simp only[raiseNew];refine A02 (wpAny_handled ?_)
 first | rw[show A.in1.handled=none from Z] | rw[Z]
 refine A02 (A07 (wpAny_throw (hE _ _ (((Heap.SameBut.update ..).extBut.push _).push _) ⟨_,A0F _ rfl,rfl⟩)))
def Oc (Y:A.handled=none)(it t:Addr)(Z:t≠it)(items:Array Value):Draws prog w A it [it,t] items.size (λi v=>items[i]? = some v) (λi h=>h.IsTupleIter it t i/\h.IsTuple t items) where
 live:=λ_ _ q=>let ⟨o,ho,_⟩:=q.1;⟨o,ho⟩
 frame:=λ_ _ _ q F=>⟨q.1.at λo e=>F it (by simp) o e,let ⟨o,ho,r⟩:=q.2;⟨o,F t (by simp) o ho,r⟩⟩
 item:=λi s Q E hi q U=>ai5 q.1 q.2 (x:=items[i]) (by simp[hi]) λh' a b=>U _ h' s.toks (by simp[hi]) ⟨a,q.2.extBut b.extBut Z⟩ b
 done:=λs Q E q O=>av1 Y q.1 q.2 (by simp) O
theorem Tl (l:Addr)(items:Array Value)(n:Nat)(O:Option Addr)(Y:Array (Option Value)) :
 Meets (Builtin.«enumerate.__new__» ⟨[.type "enumerate",.ref l],[]⟩) (λ_ R s=>s.heap.get? l=some {cls:=.type "tuple",dict:=O,data:=.seq items n,slots:=Y} /\
  R (.ok (.ret (.ref (s.heap.push {cls:=.type "tuple_iterator",data:=.fields #[.ref l,.int 0 0]}).objs.size)))
   {s with heap:=(s.heap.push {cls:=.type "tuple_iterator",data:=.fields #[.ref l,.int 0 0]}).push {cls:=.type "enumerate",data:=.fields #[.none,.bool false,.ref s.heap.objs.size,rawInt 0,.none,.none]}}):=
 .of_wp λprog w A R s h=>by
  obtain⟨U,g,d,tk,os⟩:=s;obtain⟨hl,h⟩:=h;have Z:=sub_enumerate;have F:Heap.IsTuple (Shared.heap ⟨U,g,d,tk,os⟩) l items:=⟨_,hl,rfl,n,rfl⟩
  wp_walk using A40 hl
  refine wpAny_stack_any λst=>A07 ?_
  split
  . rename_i c _ _ _ _ _
    cases (c==Value.type "enumerate")<;>(wp_walk using A40 hl,A2G F;exact⟨_,rfl,h⟩)
  wp_walk using A40 hl,A2G F
  exact⟨_,rfl,h⟩
theorem Wa {l:Addr}(hL:s.heap.IsTuple l items)
 (h:∀ h',IsEnum h' (s.heap.objs.size+1) s.heap.objs.size 0 .none->h'.IsTupleIter s.heap.objs.size l 0->(∀ b o,s.heap.get? b=some o->h'.get? b=some o)->Q (.ref (s.heap.objs.size+1)) {s with heap:=h'}) :
 wpAny (model prog w) A (call (.type "enumerate") [.ref l]) Q E s:=by
 obtain⟨⟨c,Y,Z,sl⟩,hl,O,n,hd⟩:=hL;replace O:c = .type "tuple":=O;replace hd:Z = .seq items n:=hd;subst O hd;refine callType_new F.called_enumerate ∅ (F.typeCall_enumerate_1 _) (F.newCall_enumerate_1 _) (λobj=>F.args_object_init_2 obj _) F.entry_enumerate_new (Tl l items n Y sl) ⟨hl,?_⟩;have hz:(s.heap.push {cls:=.type "tuple_iterator",data:=.fields #[.ref l,.int 0 0]}).objs.size=s.heap.objs.size+1:=A1U ..;show _/\_;have U:=A0F (s.heap.push {cls:=.type "tuple_iterator",data:=.fields #[.ref l,.int 0 0]}) (o:={cls:=.type "enumerate",data:=.fields #[.none,.bool false,.ref s.heap.objs.size,rawInt 0,.none,.none]}) rfl;rw[hz] at U ⊢;exact⟨⟨_,U,rfl⟩,h _ U ⟨_,A04 _ (A0F _ rfl),rfl,rfl⟩ λb o x=>A04 _ (A04 _ x)⟩
end
theorem Inv.turnedL {X:Cx}{pins:List (Addr×Obj)}{σ:St}{H:Hp}{s:Shared}{h':Heap}{t':Nat}{ch:List Addr}(I:Inv X pins σ H s)(k:∀ b o,b∉ch->s.heap.get? b=some o->h'.get? b=some o)(hf:∀ b∈ch,Uz X pins H b):Inv X pins σ H {s with heap:=h',toks:=t'}:=by
 have O:∀ b u,H b=some u->b∉ch:=λb u e z=>by rw[(hf b z).1] at e;cases e
 refine I.step (g':=s.gens) (d':=s.drawn) (ch:=ch) (λb hb=>?_) (λb o _ _ F e _=>k b o F e) (λb o _ _ F e _=>⟨o.slots,k b o F e⟩) (λ_ _ _ _ n=>n)
  (λb o F e=>⟨o,k b o F e⟩) (λ_ _ e=>e) (λ_ _ _ e=>e) (λb ps e=>⟨#[],by rw[e];simp⟩) (λm hm=>?_) (λb u e=>?_) I.bare
 . obtain⟨_,h2,_,Y,Z,h6⟩:=hf b hb;exact⟨Y,h2,Z,h6⟩
 . obtain⟨o,es,U,ho,r⟩:=hm;exact⟨o,es,U,k _ o (λz=>(hf _ z).2.1 rfl) ho,r⟩
 refine(I.hok b u e).stay (λc v F q=>k c v ?_ q) (λ_ q=>q) λ_ _ q=>q;rcases F with z|z
 . rw[z];exact O b u e
 exact O c _ z
def Ite (K:W.Frag)(a:Addr):It:=
 ⟨λi H=>∃ xs x,SqT K H a xs/\xs[i]? = some x,λi H v H'=>∃ t x,H t=none/\H'=upd H t (.tup [.int i,x])/\v = .ref t/\∀ xs,SqT K H a xs->xs[i]? = some x,λi H=>∃ xs,SqT K H a xs/\xs.length=i⟩
theorem Wv {P:Program}{w:World}{K:W.Frag}{a6:List Expr}{ek:Nat}{a7:Pos}(a it e:Addr)(a0:e≠it)(a2:a≠it)(aA:a≠e):Xu P w K (.Tuple a6 ek a7) (Ite K a) [e,it] e (λi h=>(∃ old,IsEnum h e it i old)/\h.IsTupleIter it a i) where
 mem:=by simp
 obj:=λi h st b F=>by
  obtain⟨⟨old,h1⟩,o,h2,h3,h4⟩:=st;rcases A0G.mp F with rfl|F
  . exact⟨_,h1,λv z=>by cases z⟩
  have q:b=it:=by simpa using F
  subst q;exact⟨o,h2,λv z=>by rw[h4] at z;cases z⟩
 keep:=λi h h' st k=>by obtain⟨⟨old,h1⟩,h2⟩:=st;exact⟨⟨old,k e (by simp) _ h1⟩,h2.at λo q=>k it (by simp) o q⟩
 item:=by
  intro X hP hw hK hc i pins s σ H E I hf st hg;subst hP hw hK;obtain⟨xs,x,hq,Y⟩:=hg;obtain⟨U,rv,p,hz⟩:=I.tuple hq
  have aD:i<U.length:=by have:=(A03.mp Y).1;rw[<- rv.length];exact this
  have D:=Oc (prog:=X.prog) (w:=X.w) (A:=X.A.in1) (by simpa using I.ok.hd hc) it a a2 U.toArray;obtain⟨⟨old,O⟩,Z⟩:=st;have a4:e<s.heap.objs.size:=A09 O;have aE:it<s.heap.objs.size:=let ⟨_,q,_⟩:=Z;A09 q;refine wpAny_pyNext_enum_itemD D O ⟨Z,p⟩ (by simpa using aD) a0 (by simp[a0,Ne.symm aA]) λv h1 tk hv ho aG hT hsz hk=>?_;obtain⟨u,hu,ru⟩:=rv.get Y
  have aH:v=u:=by have a5:U.toArray[i]? = some v:=hv;rw[A21,hu] at a5;exact(A10 a5).symm
  subst aH;refine⟨_,rfl,wpAny_letOwnedTupleGo_enum ho λh2 aC a1=>?_⟩;have a9:H s.heap.objs.size=none:=I.hok.fresh (A0B _);have a8:h2.get? s.heap.objs.size=some {cls:=.type "tuple",data:=.seq #[.int i tk,v]}:=(a1.2 _ (A2O a4)).trans hT
  have I1:Inv X pins σ (upd H s.heap.objs.size (.tup [.int i,x])) {s with heap:=s.heap.push {cls:=.type "tuple",data:=.seq #[.int i tk,v]}}:=
   I.laid (t':=s.toks) (λb ob q=>Heap.get?_push_of_some _ q) (Nat.le_refl _) ⟨by simp[sizeLine_eq],[.int i tk,v],.cons ⟨tk,rfl⟩ (.cons ru .nil),_,Heap.get?_push_size _ rfl,rfl,⟨_,rfl⟩,rfl⟩
  have nT:∀ b∈[e,it],b≠s.heap.objs.size:=λb F=>by
   rcases A0G.mp F with rfl|F
   . exact A0N a4
   have q:b=it:=by simpa using F
   subst q;exact A0N aE
  have I2:Inv X pins σ (upd H s.heap.objs.size (.tup [.int i,x])) {s with heap:=h2,toks:=tk+1}:=Inv.turnedL (s:={s with heap:=s.heap.push {cls:=.type "tuple",data:=.seq #[.int i tk,v]}}) (ch:=[e,it]) I1 (λb ob F q=>?_) (λb F=>?_)
  . refine⟨.ref s.heap.objs.size,_,I2,rfl,⟨_,x,a9,rfl,rfl,λys hy=>by rw[I.tuple_inj hy hq];exact Y⟩,⟨⟨_,by simpa using aC⟩,aG.1.at λo q=>(a1.2 it (Ne.symm a0)).trans q⟩,λb F=>?_⟩;rw[Ay (nT b F)];exact(hf b F).1
  . have a3:b≠e:=λz=>F (by simp[z]);have aB:b≠it:=λz=>F (by simp[z]);rcases A4V q with ⟨rfl,rfl⟩|q
    . exact a8
    exact(a1.2 b a3).trans (hk b ob a3 aB q)
  obtain⟨f0,f1,f2,f3,f4,f5⟩:=hf b F;exact⟨by rw[Ay (nT b F)];exact f0,f1,f2,f3,f4,f5⟩
 done:=by
  intro X hP hw hK hc i pins s σ H E I hf st hg;subst hP hw hK;obtain⟨xs,hq,Y⟩:=hg;obtain⟨U,rv,p,hz⟩:=I.tuple hq;obtain⟨⟨old,O⟩,Z⟩:=st;have aF:U.toArray.size=i:=by rw[A0E,<- rv.length];exact Y
  have D:=Oc (prog:=X.prog) (w:=X.w) (A:=X.A.in1) (by simpa using I.ok.hd hc) it a a2 U.toArray;rw[aF] at D;refine wpAny_pyNext_enum_endD D O ⟨Z,p⟩ λh' hk=>⟨rfl,I.turnedL (t':=s.toks) (ch:=[e,it]) (λb o F q=>hk b o (λz=>F (by simp[z])) q) hf⟩
 self:=by intro A i s Q E st hQ;obtain⟨⟨old,O⟩,_⟩:=st;exact wpAny_pyIter_enum O hQ
section
variable {X:Cx}{K:W.Frag}
def am9 (K:W.Frag)(vs:List V)(H:Hp)(R:It->Hp->Prop):Prop:=∃ a xs,vs=[.ref a]/\SqT K H a xs/\R (Ite K a) H
def aq7 (K:W.Frag)(ta:TA):TI:=fun σ H R=>ta σ H λvs H1=>am9 K vs H1 R
def Ny:bootBuiltins "enumerate" = some (.type "enumerate"):=PyProof.Rows.Boot.«enumerate»
theorem Xg {e:Expr}{ta:TA}{p pos:Pos}{a0:List Expr}{ek:Nat}{a1:Pos}(hg:Gl X "enumerate")(hm:X.mg "enumerate" = none)(ha:PA X [e] ta)(hK:X.K=K:=by ac_nf)(hs:starEach [e] X.env=[(false,eval e X.env)]:=by ac_nf) :
 PI X (.Tuple a0 ek a1) (.Call (.Name "enumerate" p) [e] [] pos) (aq7 K ta):=by
 subst hK;intro pins s σ H R I h;refine Call_ (Kh I hg hm Ny (A1V (thn (ha pos pins s σ H _ I h) λus F ⟨vs,H1,O,r1,q1⟩=>?_) hs rfl));obtain⟨a,xs,rfl,hq,q⟩:=q1;obtain⟨u,rfl,ru⟩:=Vals.one r1
 cases ru;obtain⟨a3,rv,ht,hz⟩:=O.tuple hq;have Y:a<F.heap.objs.size:=let ⟨_,q,_⟩:=ht;A09 q;refine Wa ht λh' Z a2 hk=>?_;refine wpAny_pyIter_enum Z ?_;refine⟨F.heap.objs.size+1,[F.heap.objs.size+1,F.heap.objs.size],_,_,H1,rfl,O.kept (t':=F.toks) hk,Wv a F.heap.objs.size (F.heap.objs.size+1) (Nat.succ_ne_self _) (A0N Y) (A0N (A34 Y)),⟨⟨_,Z⟩,a2⟩,λb U=>?_,q⟩;rcases A0G.mp U with rfl|U
 . exact O.fpOk (A39 _) (O.hok.fresh (A39 _))
 have e:b=F.heap.objs.size:=by simpa using U
 subst e;exact O.fpOk (A0B _) (O.hok.fresh (A0B _))
end
section
variable {K:W.Frag}{σ:St}{H:Hp}
def i_ienum {ts:TA}{R:It->Hp->Prop}(k:ts σ H λvs H1=>am9 K vs H1 R):aq7 K ts σ H R:=k
theorem Ud {xs:List V}{a:Addr}{n m:Nat}{tb:TS}{D:Ends}(h:SqT K H a xs)(Pv:Nat->St->Hp->Prop)(O:Pv 0 σ H)(U:∀ i σ' H',Pv i σ' H'->SqT K H' a xs)
 (hs:∀ i x σ' H' H2,xs[i]? = some x->Pv i σ' H'->Same H' H2->tb {D with nx:=Pv (i+1),ct:=Pv (i+1),bk:=D.nx} ((σ'.set n (some (.int i))).set m (some x)) H2) (hd:∀ σ' H',Pv xs.length σ' H'->D.nx σ' H') :
 am9 K [.ref a] H λJ H1=>ak3 (ab4 K 2 (M8 (Ht n) (M8 (Ht m) ae6))) tb D σ J H1:=by
 refine⟨a,xs,rfl,h,λi k σ' H'=>k=xs.length-i/\i<=xs.length/\Pv i σ' H',⟨xs.length,by simp,Nat.zero_le _,O⟩,?_⟩;rintro i k σ' H' ⟨rfl,hi,p⟩;have g:=U i σ' H' p
 by_cases F:i<xs.length
 . refine .inr ⟨⟨xs,xs[i],g,A00 F⟩,Pv (i+1),fun σ2 H2 p2=>⟨xs.length-(i+1),by omega,rfl,F,p2⟩,λv H2 y=>?_⟩;obtain⟨t,x,Y,rfl,rfl,Z⟩:=y;exact⟨t,_,rfl,SqT.of Aj,rfl,.int i,[x],rfl,x,[],rfl,rfl,hs i x σ' H' _ (Z xs g) p (Same.upd Y)⟩
 have e:i=xs.length:=by omega
 subst e;exact .inl ⟨⟨xs,g,rfl⟩,hd σ' H' p⟩
end
end L2
namespace L2
open PySem PySem.Spec PyProof.Rows
variable {a b r:Addr}{u:HO}{H H':Hp}{kvs:List (Key×V)}{as:List Addr}{ks ms:List Str}{xs:List V}{i:Nat}{x z y:Str}{ov:Str->List Str}{p:Str×Str}{tb:TE}{v:V}{Q:VK}
section
variable {X:Cx}{K:W.Frag}
section
variable {lo hi:Option Int}
def ay6 {ys:List V}(h1:SqT K H a xs)(h2:SqT K H b ys)(h:xs.length+ys.length<=sizeLine)(k:∀ p H',Same H H'->SqT K H' p (xs++ys)->Q (.ref p) H'):Wq K (.ref a) (.ref b) H Q:=by
 by_cases F:xs=[]
 . subst F;exact .inr (.inr (.inr (.inr ⟨a,b,ys,rfl,rfl,h1,h2,k b H (Same.refl _) h2⟩)))
 refine .inr (.inr (.inr (.inl ⟨a,b,xs,ys,rfl,rfl,h1,h2,F,h,λe=>?_,λ_ p O=>k p _ (Same.upd O) (SqT.of Aj)⟩)));subst e;exact k a H (Same.refl _) (by rw[A2B];exact h1)
def Z8 (h:SqT K H a xs)(k:∀ p H',Same H H'->SqT K H' p (So xs lo hi)->Q (.ref p) H'):az2 K (.ref a) lo hi H Q:=by
 by_cases hw:HT.sIx xs.length 0 lo=0/\HT.sIx xs.length xs.length hi=xs.length
 . refine .inr (.inr (.inr ⟨a,xs,rfl,h,hw,k a H (Same.refl _) ?_⟩))
   have e:So xs lo hi=xs:=by unfold So;rw[hw.1,hw.2,List.drop_zero,Nat.sub_zero,A14]
   rw[e];exact h
 exact .inr (.inl ⟨a,xs,rfl,h,hw,λp F=>k p _ (Same.upd F) (SqT.of Aj)⟩)
def ai2 {x y:V}{d:PyData}{ds:List PyData}(O:Is K H d x)(U:Is K H (.list ds) y\/Is K H (.tuple ds) y)(h1:PyData.canLayAll0 ds=true)(h2:d.canLay0=true)(F:d.depth<=100)(k:Q (.bl (ds.any λe=>PyData.eqv e d)) H):Sq K false x y H Q:=.inr (.inr (.inr ⟨d,ds,O,U,h1,h2,F,k⟩))
end
end
section
variable {K:W.Frag}{σ:St}{td ty:TE}
def i_chain {r O:R2}{ta tc:TE}(k:ta σ H λx H1=>tb σ H1 λy H2=>r x y H2 λz F=>∃ k,z = .bl k/\(if k=true then tc σ F λY U=>O y Y U Q else Q (.bl false) F)):ab3 r O ta tb tc σ H Q:=k
def i_andV {ta:TE}(k:ta σ H λx H1=>∃ c,x = .bl c/\if c=true then tb σ H1 Q else Q (.bl false) H1):aq2 ta tb σ H Q:=k
def i_orV {ta:TE}(k:ta σ H λx H1=>∃ c,x = .bl c/\if c=true then Q (.bl true) H1 else tb σ H1 Q):aG5 ta tb σ H Q:=k
def i_notV {ta:TE}(k:ta σ H λx H1=>∃ c,x = .bl c/\Q (.bl (!c)) H1):as8 ta σ H Q:=k
def ar7 {bs:List Bool}(h:SqL K H a (bs.map V.bl))(k:Q (.bl (!bs.any id)) H):Sq K true (.bl true) (.ref a) H Q:=.inl ⟨a,_,rfl,.inl h,rfl,by
 rw[A0L];intro v h;obtain⟨n,_,rfl⟩:=A0A.mp h;rfl,by
 have e:inV (.bl true) (bs.map V.bl)=bs.any id:=by
  clear h k;unfold inV
  induction bs with
  |nil=>rfl
  |cons b bs ih=>
    rw[A0P,A2F,A2F,ih]
    cases b<;>rfl
 rw[e];exact k⟩
end
def Same.rd (e:Same H H')(h:Rd H a u):Rd H' a u:=by
 rcases h with h|⟨o,h⟩
 . exact .inl (e _ _ h)
 exact .inr ⟨o,e _ _ h⟩
def Keep (as:List Addr)(H H':Hp):Prop:=(∀ b o,b∉as->H b=some o->H' b=some o)/\∀ a∈as,∀ u,Rd H a u->Rd H' a u
def Keep.refl (as:List Addr)(H:Hp):Keep as H H:=⟨λ_ _ _ h=>h,λ_ _ _ h=>h⟩
def Keep.trans {H1 H2:Hp}(a:Keep as H H1)(b:Keep as H1 H2):Keep as H H2:=⟨λc o n h=>b.1 c o n (a.1 c o n h),λc F u h=>b.2 c F u (a.2 c F u h)⟩
def Same.keep (e:Same H H')(as:List Addr):Keep as H H':=⟨λb o _ h=>e b o h,λa _ u h=>e.rd h⟩
def Keep.freeze {o:Obj}(ha:a∈as)(h:H a=some u)(hu:∀ o' Y,u ≠ .frz o' Y):Keep as H (upd H a (.frz o u)):=by
 refine⟨λb q O e=>?_,λb O w e=>?_⟩
 . have U:b≠a:=λz=>by subst z;exact O ha
   rw[Ay U];exact e
 by_cases F:b=a
 . subst F;rcases e with e|⟨o',e⟩
   . rw[h] at e
     cases e;exact .inr ⟨o,Aj⟩
   rw[h] at e
   cases e;exact absurd rfl (hu _ _)
 rcases e with e|⟨o',e⟩
 . exact .inl (by rw[Ay F];exact e)
 exact .inr ⟨o',by rw[Ay F];exact e⟩
def Keep.rd (k:Keep as H H')(h:Rd H a u):Rd H' a u:=by
 by_cases ha:a∈as
 . exact k.2 a ha u h
 rcases h with h|⟨o,h⟩
 . exact .inl (k.1 _ _ ha h)
 exact .inr ⟨o,k.1 _ _ ha h⟩
def Keep.fz (k:Keep as H H'):Fz H H':=λa xs h=>k.rd h
structure TabR (H:Hp)(r:Addr)(ns:List Str)(as:List Addr)(R:Str->Str->Prop):Prop where
 len:as.length=ns.length
 top:Rd H r (.dK (Eb ns as))
 row:∀(i:Nat) (z:Str) (a:Addr),ns[i]? = some z->as[i]? = some a->∃ ks:List Str,Rd H a (.dK (Em ks))/\ks.Nodup/\(∀ y∈ks,y∈ns)/\∀ y,y∈ks↔R z y
def Tab.toR {ns:List Str}{R:Str->Str->Prop}(h:Tab H r ns as R):TabR H r ns as R:=
 ⟨h.len,.inl h.top,λi z a hz ha=>let ⟨ks,h1,h2⟩:=h.row i z a hz ha;⟨ks,.inl h1,h2⟩⟩
def TabR.keep {bs:List Addr}{ns:List Str}{R:Str->Str->Prop}(h:TabR H r ns as R)(k:Keep bs H H'):TabR H' r ns as R:=
 ⟨h.len,k.rd h.top,λi z a hz ha=>let ⟨ks,h1,h2⟩:=h.row i z a hz ha;⟨ks,k.rd h1,h2⟩⟩
def TabR.same {ns:List Str}{R:Str->Str->Prop}(h:TabR H r ns as R)(e:Same H H'):TabR H' r ns as R:=h.keep (e.keep [])
def TabR.at {ns:List Str}{R:Str->Str->Prop}(h:TabR H r ns as R)(O:x∈ns):∃(i:Nat) (a:Addr),ns[i]? = some x/\as[i]? = some a:=by
 obtain⟨i,hi,e⟩:=A1I O;have F:i<as.length:=by rw[h.len];exact hi
 exact⟨i,as[i],by rw[A00 hi,e],A00 F⟩
structure TabL (K:W.Frag)(H:Hp)(r:Addr)(ns:List Str)(as:List Addr)(R:Str->Str->Prop):Prop where
 len:as.length=ns.length
 top:H r=some (.dK (Eb ns as))
 row:∀(i:Nat) (z:Str) (a:Addr),ns[i]? = some z->as[i]? = some a->∃ ks:List Str,H a=some (.lst (ks.map V.str))/\ks.Nodup/\∀ y,y∈ks↔R z y
def TabL.same {K:W.Frag}{ns:List Str}{R:Str->Str->Prop}(h:TabL K H r ns as R)(e:Same H H'):TabL K H' r ns as R:=
 ⟨h.len,e _ _ h.top,λi z a hz ha=>let ⟨ks,h1,h2⟩:=h.row i z a hz ha;⟨ks,e _ _ h1,h2⟩⟩
def TabL.at {K:W.Frag}{ns:List Str}{R:Str->Str->Prop}(h:TabL K H r ns as R)(O:x∈ns):∃(i:Nat) (a:Addr),ns[i]? = some x/\as[i]? = some a:=by
 obtain⟨i,hi,e⟩:=A1I O;have F:i<as.length:=by rw[h.len];exact hi
 exact⟨i,as[i],by rw[A00 hi,e],A00 F⟩
section
variable {K:W.Frag}{σ:St}{ns:List Str}{R:Str->Str->Prop}
def av7 (h:Rd H a (.dK kvs))(e:Gq kvs (Sum.inr z:Key)=some v)(k:Q v H):Qb K (.ref a) (.str z) H Q:=.inr ⟨a,v,rfl,.inl ⟨kvs,Sum.inr z,h,rfl,e.symm⟩,k⟩
def Rc (h:TabR H r ns as R)(hn:ns.Nodup)(F:ns[i]? = some x)(ha:as[i]? = some a)(k:Q (.ref a) H):Qb K (.ref r) (.str x) H Q:=av7 h.top (Dz hn F ha) k
def Yz (h:TabL K H r ns as R)(hn:ns.Nodup)(F:ns[i]? = some x)(ha:as[i]? = some a)(k:Q (.ref a) H):Qb K (.ref r) (.str x) H Q:=i_ixD h.top (Dz hn F ha) k
def P8 (h:Rd H a (.dK (Em ks)))(k:Q (.bl (decide (y∈ks))) H):Sq K false (.str y) (.ref a) H Q:=by
 refine .inr (.inr (.inl ⟨a,Gq (Em ks) (Sum.inr y:Key),rfl,.inl ⟨_,Sum.inr y,h,rfl,rfl⟩,?_⟩));rw[G7]
 by_cases e:y∈ks
 . simpa[e] using k
 simpa[e] using k
def Q2 {R:It->Hp->Prop}(h:Rd H a (.dK kvs))(ha:a∈as)(k:∀ o H',Keep as H H'->H' a=some (.frz o (.dK kvs))->R (Itd a o kvs) H'):Fa K (.ref a) H R:=by
 rcases h with h|⟨o,h⟩
 . exact aw8 h λo=>k o _ (Keep.freeze ha h λ_ _ z=>by cases z) Aj
 exact aj3 h (k o H (Keep.refl _ _) h)
end
def clR (ns:List Str)(ps:List (Str×Str))(x:Str):List (Str×Str):=(ns.filter λy=>Ck ps x y).map λy=>(x,y)
def clP (ns:List Str)(ps:List (Str×Str)):List (Str×Str):=ns.flatMap (clR ns ps)
def unB (ps:List (Str×Str))(x y:Str):Bool:=!Ck ps x y && !Ck ps y x
def unR (ns:List Str)(ps:List (Str×Str))(i:Nat):List (Str×Str):=((ns.drop (i+1)).filter λy=>unB ps (ns.getD i "") y).map λy=>(ns.getD i "",y)
def unK (ns:List Str)(ps:List (Str×Str))(k:Nat):List (Str×Str):=(List.range k).flatMap (unR ns ps)
def unP (ns:List Str)(ps:List (Str×Str)):List (Str×Str):=unK ns ps ns.length
def mem_clR {ns:List Str}{ps:List (Str×Str)}:p∈clR ns ps x↔p.1=x/\p.2∈ns/\Way ps x p.2:=by
 unfold clR;rw[A0A];constructor
 . rintro⟨y,F,rfl⟩;rw[A0V,wayB_iff] at F;exact⟨rfl,F⟩
 rintro⟨h1,h2⟩;refine⟨p.2,?_,by rw[<- h1]⟩;rw[A0V,wayB_iff];exact h2
def ag1 {ns:List Str}{ps:List (Str×Str)}:p∈clP ns ps↔p.1∈ns/\p.2∈ns/\Way ps p.1 p.2:=by
 unfold clP;rw[List.mem_flatMap];constructor
 . rintro⟨x,O,F⟩;obtain⟨rfl,h⟩:=mem_clR.mp F;exact⟨O,h⟩
 rintro⟨h1,h⟩;exact⟨p.1,h1,mem_clR.mpr ⟨rfl,h⟩⟩
def az0 (p q:Str×Str):PyData.eqv (prD p) (prD q)=decide (p=q):=by obtain⟨a,b⟩:=p;obtain⟨c,d⟩:=q;simp only[prD,PyData.eqv,PyData.eqvAll,Prod.mk.injEq,Bool.and_true];rw[A15];simp
section
variable {K:W.Frag}{σ:St}
end
section
variable {prog:Program}{w:World}{A:Around}{E:Value->Shared->Prop}{s:Shared}
end
section
variable {X:Cx}{K:W.Frag}
end
section
variable {K:W.Frag}{σ:St}
end
section
variable {K:W.Frag}
end
theorem IsL.bl_eq {α:Type}{K:W.Frag}{H:Hp}{f:α->Bool}:∀ {as:List α} {vs:List V},IsL K H (as.map λa=>PyData.bool (f a)) vs->vs=(as.map f).map V.bl
 | [],vs,h=>by simp only[List.map_nil,IsL] at h;exact h
 |n :: ns,vs,h=>by simp only[List.map_cons,IsL,Is] at h;obtain⟨v,r,rfl,rfl,F⟩:=h;rw[IsL.bl_eq F];rfl
theorem Kf {α:Type}{K:W.Frag}{σ:St}{J:It}{G:Hp->Prop}{g:TG}{te:TE}{k:Nat}{js:List Nat}(hw:Eo J xs G)(as:List α)(hl:as.length=xs.length)(f:α->Bool)(hz:xs.length<=1000000)(U:∀ H',Same H H'->G H')
 (hs:∀(i:Nat) a v H1 (R:VK),as[i]? = some a->xs[i]? = some v->Same H H1->(∀ H2,Same H1 H2->R (.bl (f a)) H2)->g v (List.replicate k none++Mm σ js) H1 fun σ2 H2=>te σ2 H2 R)
 (hd:∀ p H',H p=none->Same H H'->SqL K H' p ((as.map f).map V.bl)->Q (.ref p) H'):Kw k js g W1 te σ J H Q:=by
 refine C4 (K:=K) hw as hl (λ_=>true) (λa=>PyData.bool (f a)) (λ_=>rfl) hz U (λi a v H1 R R' ha hv e Y a0=>?_) (λp ys H' Z e h F=>?_)
 . exact hs i a v H1 R ha hv e λH2 O=>Y rfl _ H2 O aC2
 rw[Nk] at F;have:=IsL.bl_eq F;subst this;exact hd p H' Z e (SqL.of h)
section
variable {P:Program}{w:World}{κ:Type}[DecidableEq κ]{knd:KeyKind P w κ}{A:Around}{E:Value->Shared->Prop}{s:Shared}
def EqW (P:Program)(w:World)(A:Around)(s:Shared)(x y:Value)(e:Bool):Prop:=∀(E:Value->Shared->Prop) (Q:Bool->Shared->Prop),Q e s->wpAny (model P w) A (eqBool x y) Q E s
def Nu (F:Value->Value->Bool)(O:List (κ×Value))(kv:κ×Value):Bool:=match valueAt O kv.1 with
 |none=>false
 |some y=>F kv.2 y
theorem az6 {nm:String}{O U:List (κ×Value)}{Q:Bool->Shared->Prop}(Y:Value->Value->Bool)(na:(a==sysModules)=false)(nb:(b==sysModules)=false)(d1:s.heap.DictOf knd a O)(d2:s.heap.DictOf knd b U)
 (he:∀ kv∈O,∀ y,valueAt U kv.1=some y->EqW P w A s kv.2 y (Y kv.2 y)) (h:Q (decide (O.length=U.length)&&O.all (Nu Y U)) s):wpAny (model P w) A (Builtin.Dict.samePairs nm a b) Q E s:=by
 obtain⟨o1,F,p1,g1,_,f1,k1,r1,_⟩:=d1;obtain⟨o2,t2,p2,g2,_,f2,k2,r2,_⟩:=d2;have z1:O.length=F.size:=r1.length.symm.trans A1O;have z2:U.length=t2.size:=r2.length.symm.trans A1O
 have look:∀ k,valueAt U k=findBy knd.is t2 k:=λk=>by rw[<- r2.find k];clear r2 f2 k2 z2;obtain⟨l⟩:=t2;simp[findBy]
 unfold Builtin.Dict.samePairs Builtin.Dict.showsAll;rw[A0J (by rw[na];decide),A0J (by rw[nb];decide)];refine A02 (A07 ?_);refine A02 (A07 ?_);refine A02 (A4B g1 f1 ?_);refine A02 (A4B g2 f2 ?_)
 by_cases hz:F.size=t2.size
 . have h':Q (O.all (Nu Y U)) s:=by rw[A0D (by rw[z1,z2];exact hz),Bool.true_and] at h;exact h
   rw[if_neg (by simp[hz])];refine A02 (wpAny_dictEpoch g1 f1 ?_);refine A02 ?_;rw[Std.Legacy.Range.forIn_eq_forIn_range',show Std.Legacy.Range.size [:F.size]=F.size by simp[Std.Legacy.Range.size]];refine wpAny_forIn_list _ (λl q s'=>s'=s/\q=(none,())/\∃ i,i<=F.size/\l=List.range' i (F.size-i)/\(O.drop i).all (Nu Y U)=O.all (Nu Y U)) _ ?_ ?_ _ _ ⟨rfl,rfl,0,A1W _,rfl,rfl⟩
   . rintro j l q s' ⟨rfl,rfl,i,hi,el,Z⟩
     have a2:i<F.size:=by
      rcases A3C i F.size with q|q
      . exact q
      rw[Nat.sub_eq_zero_of_le q] at el
      cases el
     rw[show F.size-i=F.size-(i+1)+1 by omega,List.range'_succ] at el;injection el with e1 e2;subst e1;refine A02 (A4B g1 f1 ?_);have a6:j<O.length:=by omega
     have hk:O[j]? = some O[j]:=A00 a6;have ht:F[j]? = some F[j]:=Array.getElem?_eq_getElem a2;generalize O[j]=kv at hk;generalize F[j]=en at ht;have a7:kv∈O:=A05 hk
     have a4:O.drop j=kv :: O.drop (j+1):=by obtain⟨q1,q2⟩:=A03.mp hk;rw[<- q2];exact List.drop_eq_getElem_cons q1
     obtain⟨a1,a3⟩:=r1.get? (i:=j) (e:=en) (k:=kv.1) (v:=kv.2) (by rw[A3P];exact ht) hk;obtain⟨k',a5,hh⟩:=k1 en (Array.mem_of_getElem? ht);have ek:k'=kv.1:=knd.inj _ _ _ a5 a1;subst ek;rw[a4,List.all_cons] at Z;rw[ht];refine A02 (m:=holding _ _) (A19 ?_);rw [hh];refine A02 (wpAny_dictFind_of a1 g2 f2 k2 ?_);have hf:=findBy_of_findIdx? knd.is t2 kv.1
     cases hj:t2.findIdx? λe=>knd.is kv.1 e.key with
     |none=>
       rw[hj] at hf
       have hn:Nu Y U kv=false:=by unfold Nu;rw[look,hf]
       refine A07 ?_;rw[A0K (show(!false)=true from rfl)];refine A07 (A07 ?_);rw[<- Z,hn,A4Z] at h';exact h'
     |some m=>
       rw[hj] at hf;obtain⟨hm,_⟩:=Array.findIdx?_eq_some_iff_getElem.mp hj;have hv:valueAt U kv.1=some t2[m].val:=by rw[look,hf];simp[Array.getElem?_eq_getElem hm]
       have hw:Nu Y U kv=Y kv.2 t2[m].val:=by unfold Nu;rw[hv]
       refine A02 (A4B g2 f2 ?_);rw[Array.getElem?_eq_getElem hm];have a0:=he kv a7 _ hv;rw [<- a3] at a0;refine A19 (a0 _ _ ?_);rw[a3,<- hw]
       cases hb:Nu Y U kv with
       |false=>rw[A0K (show(!false)=true from rfl)];refine A07 (A07 ?_);rw[<- Z,hb,A4Z] at h';exact h'
       |true=>rw[A0J (show ¬ (!true)=true by decide)];refine A02 (wpAny_dictEpoch g1 f1 ?_);rw[if_neg (by simp)];refine A07 ⟨rfl,rfl,j+1,a2,e2,?_⟩;rw[hb,Bool.true_and] at Z;exact Z
   rintro q s' ⟨rfl,rfl,i,hi,el,Z⟩
   have a8:F.size<=i:=by
    rcases A3C i F.size with q|q
    . rw[show F.size-i=F.size-(i+1)+1 by omega,List.range'_succ] at el
      cases el
    exact q
   refine A07 ?_;rw[List.drop_of_length_le (by omega)] at Z;rw[<- Z] at h';exact h'
 rw[if_pos (by simpa using hz)];rw[A0H (by rw[z1,z2];exact hz),A4Z] at h;exact A02 (A4T (A07 h))
theorem aB6 {O U:List (κ×Value)}{Q:Value->Shared->Prop}(Y:Value->Value->Bool)(na:(a==sysModules)=false)(nb:(b==sysModules)=false)(Z:s.heap.DictOf knd a O)(d2:s.heap.DictOf knd b U)(hu:A.units<cLine)
 (he:∀ kv∈O,∀ y,valueAt U kv.1=some y->EqW P w A.in1 s kv.2 y (Y kv.2 y)) (h:Q (.bool (decide (O.length=U.length)&&O.all (Nu Y U))) s):wpAny (model P w) A (richCompare .Eq (.ref a) (.ref b)) Q E s:=by
 refine wpAny_richCompare_same_room Z.typeIs d2.typeIs PySem.F.slot_dict_eq (A24 PySem.F.slot_dict_eq Z.typeIs PySem.F.entry_dict_eq ?_ (PySem.F.args_dict_eq_2 _ _)) hu;show wpAny _ _ (Builtin.Dict.dictSlotArgs "__eq__" _ >>= _) _ _ s;unfold Builtin.Dict.dictSlotArgs;refine A02 (A02 (A4Q Z.typeIs ?_));show wpAny _ _ (pure (_,_)) _ _ s;refine A07 (A02 (A37 d2.typeIs PySem.F.sub_dict_dict ?_));rw[A0J (show ¬ (!true)=true by decide)];refine A02 (A07 ?_);refine A02 (A07 ?_);refine A02 (az6 Y na nb Z d2 he ?_);refine A07 ⟨_,rfl,(λz=>by cases z),?_⟩;rw[show((decide (O.length=U.length)&&O.all (Nu Y U))==true)=(decide (O.length=U.length)&&O.all (Nu Y U)) by simp];exact h
def Uo {e:Bool}(F:a≠b)(h:∀(E:Value->Shared->Prop) (Q:Value->Shared->Prop),Q (.bool e) s->wpAny (model P w) A (richCompare .Eq (.ref a) (.ref b)) Q E s):EqW P w A s (.ref a) (.ref b) e:=by intro E Q q;unfold eqBool;exact A19 (wpAny_ite_split (λz=>absurd (by have O:=eq_of_beq z;injection O) F) λ_=>A02 (h E _ (A1Q q)))
end
def Yu {α:Type}[DecidableEq α]{xs ys:List α}(F:xs.Nodup)(hs:∀ x∈xs,x∈ys)(hl:xs.length=ys.length):∀ y∈ys,y∈xs:=λy O=>Classical.byContradiction λhn=>by
 have:=Be (xs:=y :: xs) (ys:=ys) (A12.mpr ⟨hn,F⟩) λz hz=>by
  rcases A0G.mp hz with rfl|hz
  . exact O
  exact hs z hz
 rw[A0X] at this;omega
def G1 (ks ms:List Str):Bool:=decide (ks.length=ms.length)&&ks.all λy=>decide (y∈ms)
def S8 (U:ks.Nodup)(hm:ms.Nodup):G1 ks ms=true↔∀ y,y∈ks↔y∈ms:=by
 unfold G1;rw[A0W,A47,A0L];constructor
 . rintro⟨h1,h2⟩ y;have O:∀ y∈ks,y∈ms:=λy F=>A13 (h2 y F);exact⟨O y,Yu U O h1 y⟩
 intro h;refine⟨A3F (Be U λy F=>(h y).mp F) (Be hm λy F=>(h y).mpr F),λy F=>A0D ((h y).mp F)⟩
def aB9:Key->Option Str
 |.inr z=>some z
 |_=>none
def O4 (H:Hp)(x:Value):List Str:=match x with
 |.ref a=>match H a with
   |some (.dK kvs)=>kvs.filterMap λkv=>aB9 kv.1
   |_=>[]
 |_=>[]
def Iv (ks:List Str):((Em ks).filterMap λkv=>aB9 kv.1)=ks:=by
 unfold Em;rw[List.filterMap_map]
 induction ks with
 |nil=>rfl
 |cons k ks ih=>rw[List.filterMap_cons];show k :: _=_;rw[ih]
def Kj (h:H a=some (.dK (Em ks))):O4 H (.ref a)=ks:=by unfold O4;simp only[h];exact Iv ks
theorem KV.right {κ:Type}:∀ {kvs:List (κ×V)} {vs:List (κ×Value)},KV kvs vs->∀ u∈vs,∃ kv∈kvs,kv.1=u.1/\RelV kv.2 u.2
 |_,_,.nil,_,h=>nomatch h
 |_,_,.cons r t,u,h=>by
   rcases A0G.mp h with rfl|h
   . exact⟨_,A16,r⟩
   obtain⟨kv,h1,h2⟩:=KV.right t u h;exact⟨kv,A0I _ h1,h2⟩
theorem KV.left {κ:Type}:∀ {kvs:List (κ×V)} {vs:List (κ×Value)},KV kvs vs->∀ kv∈kvs,∃ u∈vs,kv.1=u.1/\RelV kv.2 u.2
 |_,_,.nil,_,h=>nomatch h
 |_,_,.cons r t,u,h=>by
   rcases A0G.mp h with rfl|h
   . exact⟨_,A16,r⟩
   obtain⟨kv,h1,h2⟩:=KV.left t u h;exact⟨kv,A0I _ h1,h2⟩
section
variable {X:Cx}{pins:List (Addr×Obj)}{σ:St}{s:Shared}{A:Around}
theorem ag2 (I:Inv X pins σ H s)(h1:H a=some (.dK (Em ks)))(h2:H b=some (.dK (Em ms)))(hu:A.units<cLine):EqW X.prog X.w A s (.ref a) (.ref b) (G1 ks ms):=by
 by_cases a1:a=b
 . subst a1;rw[h1] at h2
   have e:ks=ms:=by
    have e1:Em ks=Em ms:=by injection h2 with h;injection h
    rw[<- Iv ks,e1,Iv]
   subst e
   have e2:G1 ks ks=true:=by unfold G1;rw[A0W,A0L];exact⟨by simp,λy O=>decide_eq_true O⟩
   rw[e2];exact λE Q q=>SeqAt.EqAt.same (.ref a) X.prog X.w E Q q
 refine Uo a1 λE Q q=>?_;obtain⟨_,n1,v1,r1,d1⟩:=Ox I.hok h1;obtain⟨_,n2,U,r2,d2⟩:=Ox I.hok h2
 have all1:∀ kv∈v1,kv.2 = .bool true:=λkv h=>by obtain⟨p,hp,_,hr⟩:=KV.right r1 kv h;obtain⟨y,_,rfl⟩:=A0A.mp hp;exact hr
 have a5:∀ k y,valueAt U k=some y->y = .bool true:=λk y h=>by
  have F:=KV.val r2 k;rw[h] at F
  cases k with
  |inl i=>
    have:Gq (Em ms) (Sum.inl i:Key)=none:=by
     unfold Gq Em
     rw[List.find?_eq_none.mpr (λkv a0=>by obtain⟨y,_,rfl⟩:=A0A.mp a0;simp)]
     rfl
    rw[this] at F;exact F.elim
  |inr z=>
    rw[G7] at F
    by_cases hz:z∈ms
    . rw[A0K hz] at F;exact F
    rw[A0J hz] at F;exact F.elim
 refine aB6 (λ_ _=>true) n1 n2 d1 d2 hu (λkv a0 y O=>?_) ?_
 . rw[all1 kv a0,a5 _ y O];exact λE Q q=>A4U true true X.prog X.w E Q q
 have e:(decide (v1.length=U.length)&&v1.all (Nu (λ_ _=>true) U))=G1 ks ms:=by
  unfold G1;rw[<- r1.length,<- r2.length,Gc,Gc];congr 1
  have a2:∀ z,Nu (λ_ _=>true) U (Sum.inr z,Value.bool true)=decide (z∈ms):=λz=>by
   have F:=KV.val r2 (Sum.inr z:Key);rw[G7] at F;unfold Nu
   by_cases hz:z∈ms
   . rw[A0K hz] at F
     cases hx:valueAt U (Sum.inr z:Key) with
     |none=>rw[hx] at F;exact F.elim
     |some y=>simp[hz]
   rw[A0J hz] at F
   cases hx:valueAt U (Sum.inr z:Key) with
   |none=>simp[hz]
   |some y=>rw[hx] at F;exact F.elim
  rw[A15,A0L,A0L];constructor
  . intro h y O;obtain⟨u,Y,a4,a7⟩:=KV.left r1 (Sum.inr y,V.bl true) (A0A.mpr ⟨y,O,rfl⟩);have:=h u Y;obtain⟨u1,u2⟩:=u;simp only at a4;subst a4;have Z:u2=Value.bool true:=all1 _ Y;subst Z;rw[<- a2];exact this
  intro h u Y;obtain⟨p,hp,a3,a6⟩:=KV.right r1 u Y;obtain⟨y,O,rfl⟩:=A0A.mp hp;have Z:=all1 u Y;obtain⟨u1,u2⟩:=u;simp only at a3 Z;subst a3 Z;rw[a2];exact h y O
 rw[e];exact q
def Qv {ns:List Str}  {k:Key}  (hn:ns.Nodup) (hl:as.length=ns.length) (h:Gq (Eb ns as) k=some v):∃(i:Nat) (z:Str) (a:Addr),k=Sum.inr z/\v = .ref a/\ns[i]? = some z/\as[i]? = some a:=by
 unfold Gq at h
 cases hf:(Eb ns as).find? λkv=>decide (kv.1=k) with
 |none=>rw[hf] at h;cases h
 |some kv=>
   rw[hf] at h;have O:=List.find?_some hf;have F:kv.1=k:=A13 O;have hm:=List.mem_of_find?_eq_some hf;obtain⟨p,U,rfl⟩:=A0A.mp hm
   cases h;obtain⟨i,hi,e⟩:=A1I U;rw[List.getElem_zip] at e;rw[List.length_zip] at hi;subst e;exact⟨i,_,_,F.symm,rfl,A00 (by omega),A00 (by omega)⟩
def aA6:R2:=λx y H Q=>∃ r F ns ns' as O R R',x = .ref r/\y = .ref F/\Tab H r ns as R/\Tab H F ns' O R'/\ns.Nodup/\ns'.Nodup/\∀ b,(b=true↔((∀ z,z∈ns↔z∈ns')/\∀ z∈ns,∀ y,R z y↔R' z y))->Q (.bl b) H
theorem a66 (hq:QA X.A):OpR X (compareOp .Eq) aA6:=by
 intro pins s σ H x y v u Q I rx ry h;obtain⟨r,r',ns,ns',as,a0,R,R',rfl,rfl,U,O,hn,a2,q⟩:=h
 cases rx
 cases ry;obtain⟨_,n1,v1,r1,d1⟩:=Ox I.hok U.top;obtain⟨_,n2,v2,r2,d2⟩:=Ox I.hok O.top;have aJ:=hq.un
 have a4:∀ kv∈v1,∃(i:Nat) (z:Str) (a:Addr),kv=(Sum.inr z,Value.ref a)/\ns[i]? = some z/\as[i]? = some a:=λkv h=>by
  obtain⟨p,hp,he,hr⟩:=KV.right r1 kv h;obtain⟨p',aG,rfl⟩:=A0A.mp hp;obtain⟨i,hi,e⟩:=A1I aG;rw[List.getElem_zip] at e;rw[List.length_zip] at hi;subst e;obtain⟨k1,k2⟩:=kv;simp only at he hr
  cases he
  cases hr;exact⟨i,_,_,rfl,A00 (by omega),A00 (by omega)⟩
 have a3:∀ z y,valueAt v2 (Sum.inr z:Key)=some y->∃(i:Nat) (b:Addr),y=Value.ref b/\ns'[i]? = some z/\a0[i]? = some b:=λz y h=>by
  have F:=KV.val r2 (Sum.inr z:Key);rw[h] at F
  cases hx:Gq (Eb ns' a0) (Sum.inr z:Key) with
  |none=>rw[hx] at F;exact F.elim
  |some x=>
    rw[hx] at F;obtain⟨i,z',b,e1,rfl,e3,e4⟩:=Qv a2 O.len hx
    cases e1;exact⟨i,b,F,e3,e4⟩
 have aB:∀(i:Nat) z b,ns'[i]? = some z->a0[i]? = some b->valueAt v2 (Sum.inr z:Key)=some (Value.ref b):=λi z b h1 h2=>by
  have F:=KV.val r2 (Sum.inr z:Key);rw[Dz a2 h1 h2] at F
  cases hx:valueAt v2 (Sum.inr z:Key) with
  |none=>rw[hx] at F;exact F.elim
  |some x=>rw[hx] at F;cases F;rfl
 show wpAny _ _ (richCompare .Eq (.ref r) (.ref r')) _ _ _;refine aB6 (λx y=>G1 (O4 H x) (O4 H y)) n1 n2 d1 d2 (by omega) (λkv a1 y Z=>?_) ⟨.bl _,H,I,rfl,q _ ?_⟩
 . obtain⟨i,z,a,rfl,hz,ha⟩:=a4 kv a1;obtain⟨j,b,rfl,aI,Y⟩:=a3 z y Z;obtain⟨ks,hk,_⟩:=U.row i z a hz ha;obtain⟨ms,hm,_⟩:=O.row j z b aI Y;show EqW _ _ _ _ (.ref a) (.ref b) (G1 (O4 H (.ref a)) (O4 H (.ref b)));rw[Kj hk,Kj hm];exact ag2 I hk hm (show X.A.units+1<cLine by omega)
 rw[A0W,A47,A0L,<- r1.length,<- r2.length];have l1:(Eb ns as).length=ns.length:=by unfold Eb;rw[List.length_map,List.length_zip,U.len];omega
 have l2:(Eb ns' a0).length=ns'.length:=by unfold Eb;rw[List.length_map,List.length_zip,O.len];omega
 rw[l1,l2]
 have a5:∀(i:Nat) z a,ns[i]? = some z->as[i]? = some a->(Nu (λx y=>G1 (O4 H x) (O4 H y)) v2 (Sum.inr z,Value.ref a)=true↔z∈ns'/\∀ y,R z y↔R' z y):=λi z a hz ha=>by
  obtain⟨ks,aC,aD,_,a6⟩:=U.row i z a hz ha;unfold Nu
  cases hx:valueAt v2 (Sum.inr z:Key) with
  |none=>
    refine⟨(λh=>by cases h),(λh=>?_)⟩;obtain⟨j,b,hj,Y⟩:=O.at h.1;rw[aB j z b hj Y] at hx
    cases hx
  |some y=>
    obtain⟨j,b,rfl,hj,Y⟩:=a3 z y hx;obtain⟨ms,aE,aF,_,a7⟩:=O.row j z b hj Y;show G1 (O4 H (.ref a)) (O4 H (.ref b))=true↔_;rw[Kj aC,Kj aE,S8 aD aF];constructor
    . exact λh=>⟨A05 hj,λy=>(a6 y).symm.trans ((h y).trans (a7 y))⟩
    exact λh y=>(a6 y).trans ((h.2 y).trans (a7 y).symm)
 constructor
 . rintro⟨h1,h2⟩
   have h3:∀ z∈ns,z∈ns'/\∀ y,R z y↔R' z y:=λz hz=>by
    obtain⟨i,a,hi,ha⟩:=U.at hz
    obtain⟨u,aH,a8,a9⟩:=KV.left r1 (Sum.inr z,V.ref a) (by refine A0A.mpr ⟨(z,a),?_,rfl⟩;refine A05 (i:=i) ?_;rw[List.getElem?_zip_eq_some];exact⟨hi,ha⟩)
    obtain⟨u1,u2⟩:=u;simp only at a8 a9
    cases a8
    cases a9;exact(a5 i z a hi ha).mp (h2 _ aH)
   exact⟨λz=>⟨λhz=>(h3 z hz).1,Yu hn (λz hz=>(h3 z hz).1) h1 z⟩,λz hz=>(h3 z hz).2⟩
 rintro⟨h1,h2⟩;refine⟨A3F (Be hn λy Z=>(h1 y).mp Z) (Be a2 λy Z=>(h1 y).mpr Z),λkv a1=>?_⟩;obtain⟨i,z,a,rfl,hz,ha⟩:=a4 kv a1;have aA:=A05 hz;exact(a5 i z a hz ha).mpr ⟨(h1 z).mp aA,h2 z aA⟩
end
section
variable {prog:Program}{w:World}{A:Around}{E:Value->Shared->Prop}{s:Shared}
end
section
variable {X:Cx}{K:W.Frag}
end
def Way.mem {ns:List Str}{ps:List (Str×Str)}(hm:∀ p∈ps,p.1∈ns/\p.2∈ns)(h:Way ps x y):x∈ns/\y∈ns:=by obtain⟨p,O,e⟩:=A0A.mp h.left;obtain ⟨q,U,F⟩:=A0A.mp h.right;exact⟨e ▸ (hm p O).1,F ▸ (hm q U).2⟩
theorem V3 {ps:List (Str×Str)}{m:List Str}(hm:m.Nodup):∀ {l:List Str},l.Nodup->(l.flatMap (clR m ps)).Nodup
 | [],_=>by simp
 |a :: l,h=>by
   rw[A12] at h;rw[A3N,A33];refine⟨?_,V3 hm h.2,λp Y q F e=>?_⟩
   . unfold clR;exact D7 (hm.filter _) λx _ y _ e=>by injection e
   subst e;obtain⟨x,Z,F⟩:=List.mem_flatMap.mp F;have O:=(mem_clR.mp Y).1;have U:=(mem_clR.mp F).1;exact h.1 (by rw[<- O,U];exact Z)
theorem Xy (ps:List (Str×Str))(a:Str)(m:List Str):∀ t:List Str,(t.flatMap (clR (a :: m) ps)).length=(t.flatMap (clR m ps)).length+(t.filter λx=>Ck ps x a).length
 | []=>by simp
 |x :: t=>by
   rw[A3N,A3N,A08,A08,Xy ps a m t,A1J]
   have e:(clR (a :: m) ps x).length=(clR m ps x).length+(if Ck ps x a=true then 1 else 0):=by
    unfold clR;rw[A01,A01,A1J]
    split
    . rw[A0X]
    rfl
   rw[e]
   split
   . rw[A0X];omega
   omega
theorem Qt {ps:List (Str×Str)}(irr:∀ x,¬ Way ps x x)(a:Str):∀ t:List Str,(t.filter λy=>Ck ps a y).length+(t.filter λy=>Ck ps y a).length+(t.filter λy=>unB ps a y).length=t.length
 | []=>rfl
 |y :: t=>by
   have F:=Qt irr a t;rw[A1J,A1J,A1J,A0X];unfold unB at F ⊢
   cases h1:Ck ps a y<;>cases h2:Ck ps y a
   . simp;omega
   . simp;omega
   . simp;omega
   exact absurd ((wayB_iff.mp h1).trans (wayB_iff.mp h2)) (irr a)
def Vb (ps:List (Str×Str))(a:Str)(t:List Str):(unP (a :: t) ps).length=(t.filter λy=>unB ps a y).length+(unP t ps).length:=by
 have e:∀ i,unR (a :: t) ps (i+1)=unR t ps i:=λi=>by unfold unR;rw[List.getD_cons_succ,List.drop_succ_cons]
 unfold unP unK;rw[A0X,List.range_succ_eq_map,A3N,A08,List.flatMap_map]
 have F:(unR (a :: t) ps 0).length=(t.filter λy=>unB ps a y).length:=by unfold unR;rw[A01];rfl
 rw[F];have O:(λi=>unR (a :: t) ps (Nat.succ i))=unR t ps:=funext e;rw[show((List.range t.length).flatMap λi=>unR (a :: t) ps i.succ)=(List.range t.length).flatMap (unR t ps) from by rw[O]]
theorem Ul {ps:List (Str×Str)}(irr:∀ x,¬ Way ps x x):∀ l:List Str,2*(((l.flatMap (clR l ps)).length:Int)+((unP l ps).length:Int))=(l.length:Int)*((l.length:Int)-1)
 | []=>by rfl
 |a :: t=>by
   have O:=Ul irr t;have U:=Qt irr a t;rw[A3N,A08,Xy,Vb]
   have e:(clR (a :: t) ps a).length=(t.filter λy=>Ck ps a y).length:=by unfold clR;rw[A01,A1J,Ot (irr a)];rfl
   rw[e,A0X]
   have F:(((t.length+1:Nat):Int))*((((t.length+1:Nat):Int))-1)=(t.length:Int)*((t.length:Int)-1)+2*(t.length:Int):=by rw[Int.natCast_add,show((1:Nat):Int)=1 from rfl,Int.add_sub_cancel,Int.add_mul,Int.mul_sub];omega
   rw[F,<- O];omega
def T8 {ns:List Str}{ps:List (Str×Str)}(irr:∀ x,¬ Way ps x x):2*(((clP ns ps).length:Int)+((unP ns ps).length:Int))=(ns.length:Int)*((ns.length:Int)-1):=Ul irr ns
def inS (ns:List Str):Key->Bool
 |.inr z=>decide (z∈ns)
 |.inl _=>false
def a76 (ns:List Str)(z:Str)(k:Key):inS (ns++[z]) k=(inS ns k||decide (k=Sum.inr z)):=by
 cases k with
 |inl i=>simp[inS]
 |inr y=>simp only[inS,List.mem_append,List.mem_singleton,Bool.decide_or];congr 1;simp
def Tc (ms:List Str)(z:Str):(Cp [] (ms++[z])).length=if inS ms (Sum.inr z)=true then(Cp [] ms).length else(Cp [] ms).length+1:=by
 unfold Cp;rw[List.foldl_append];show(a16 (Cp [] ms) z).length=_;unfold a16;have e:(z∈Cp [] ms)↔z∈ms:=by rw[mem_addAll];simp
 by_cases h:z∈ms
 . rw[if_pos (e.mpr h),if_pos (by simpa[inS] using h)];rfl
 rw[if_neg (λq=>h (e.mp q)),if_neg (by simpa[inS] using h),List.length_append,List.length_singleton];rfl
def Qk:∀ ms:List Str,(Cp [] ms).length<=ms.length:=λms=>by
 have g:=Be (ys:=ms) (E8 (ms:=ms) (ks:=[]) (by simp)) λz hz=>by
  rcases mem_addAll.mp hz with h|h
  . cases h
  exact h
 exact g
section
variable {P:Program}{w:World}{A:Around}{R:Result->Shared->Prop}{it:Addr}{fp wr:List Addr}{G:Array GenState->Array GenState->Prop}{n:Nat}{PV:Nat->Value->Prop}{St:Nat->Shared->Prop}
def X6 (z:Str)(t:Tok):(Ax P w).is (Sum.inr z) (.str z t)=true:=by show Oy (Sum.inr z) (.str z t)=true;simp[Oy,Value.isStrOf]
theorem a64 (W:WalksS P w A.in1 it fp wr G n PV St)(D:Addr)(hD:D∉fp)(ns:List Str)(a9:∀ i v,PV i v->∃ z t,ns[i]? = some z/\v = .str z t)(U:n+1<scanBound)(hn:ns.length=n) :
 ∀(k i:Nat) (s:Shared),n-i=k->i<=n->St i s->s.heap.SetOf (Ax P w) D (inS (ns.take i)) (Cp [] (ns.take i)).length ->
  (∀ s',Moved (D :: wr) G s s'->s'.heap.SetOf (Ax P w) D (inS ns) (Cp [] ns).length->R (.ok (.ret .none)) s') ->
  codeAny (model P w) A (.builtin "set.update.loop" ⟨[.ref D,.ref it],[]⟩) R s:=by
 have a3:D∉wr:=λh=>hD (W.sub _ h);have sub:∀ b∈wr,b∈D :: wr:=λb h=>.tail _ h;have a2:∀ {s s':Shared} {f:Key->Bool} {m:Nat},Moved wr G s s'->s.heap.SetOf (Ax P w) D f m->s'.heap.SetOf (Ax P w) D f m:=λhm ⟨o,es,ep,t,ho,r⟩=>⟨o,es,ep,t,hm.heap D _ a3 ho,r⟩;intro k
 induction k with
 |zero=>
   intro i s hk hi st O Y;obtain rfl:i=n:=by omega
   rw[A3L (by omega)] at O;refine A3Z F.entry_set_update_loop ?_;rw[A3W F.plain_set_update_loop];refine A02 (m:=pyNext (.ref it)) (W.done s _ _ st λs' hm=>?_);show wpAny _ _ (ret Value.none) _ _ _;exact A07 (Y s' (hm.mono sub) (a2 hm O))
 |succ k ih=>
   intro i s hk hi st O Y;have a0:i<n:=by omega
   refine A3Z F.entry_set_update_loop ?_;rw[A3W F.plain_set_update_loop];refine A02 (m:=pyNext (.ref it)) (W.item i s _ _ a0 st λv s' hv aA hm=>?_);obtain⟨z,t,hz,rfl⟩:=a9 i v hv;have ht:ns.take (i+1)=ns.take i++[z]:=by rw[A0U,hz];rfl
   refine A02 (m:=holding _ (setAdd D (.str z t))) (A19 ?_);unfold setAdd;refine A19 (A02 ((Ax P w).pyHash (X6 z t) ?_));have a7:=Qk (ns.take i);rw[A0S] at a7;refine wpAny_setAddHashed_of (s:={s' with toks:=s'.toks+1}) (X6 z t) rfl (show s'.heap.SetOf _ _ _ _ from a2 hm O) (by omega) λh' a1 a4=>?_
   have a5:h'.SetOf (Ax P w) D (inS (ns.take (i+1))) (Cp [] (ns.take (i+1))).length:=by
    rw[ht,Tc,show inS (ns.take i++[z])=λk'=>inS (ns.take i) k'||decide (k'=Sum.inr z) from funext (a76 _ _)]
    exact a4
   refine A07 ⟨plainId_quiet F.plain_set_update_loop _,ih (i+1) _ (by omega) a0 (W.frame _ s' _ _ aA (A39 _) λb U o e=>?_) a5 λs2 a8 a6=>?_⟩
   . have Z:b≠D:=λq=>hD (q ▸ U);exact(a1.2 b Z).trans e
   refine Y s2 (Moved.trans W.gtrans ((hm.mono sub).then_heap (A39 _) λb o U e=>?_) a8) a6;have Z:b≠D:=λq=>U (by rw[q];exact A16);exact(a1.2 b Z).trans e
end
def Sr:isSubtype (.type "tuple") (.type "set")=pure false:=by rw[isSubtype_type];kernel_rfl
def Qx:isSubtype (.type "tuple") (.type "frozenset")=pure false:=by rw[isSubtype_type];kernel_rfl
section
variable {prog:Program}{w:World}{A:Around}{E:Value->Shared->Prop}{s:Shared}
def Ls (F:Bool):Obj:={cls:=.type "set",dict:=none,data:=.set #[] 0 (.fresh 0 0 F)}
def ax0 (prog:Program)(w:World)(s:Shared)(ns:List Str)(h':Heap):Prop:=h'.SetOf (Ax prog w) s.heap.objs.size (inS ns) (Cp [] ns).length/\∀ b o,b<s.heap.objs.size->s.heap.get? b=some o->h'.get? b=some o
set_option maxHeartbeats 3200000 in
theorem Zs {t:Addr}{U:List Value}{ns:List Str}{Q:Value->Shared->Prop}(hh:A.handled=none)(ht:s.heap.IsTuple t U.toArray)(hv:Vals (ns.map V.str) U)(Y:ns.length+1<scanBound)
 (h:∀(h':Heap) (k:Nat),ax0 prog w s ns h'->Q (.ref s.heap.objs.size) {s with heap:=h',toks:=k}):wpAny (model prog w) A (call (.type "set") [.ref t]) Q E s:=by
 have a8:U.length=ns.length:=by rw[<- hv.length,A01]
 obtain⟨c,tl,m1⟩:=F.called_set.mro;have m2:=F.called_set.made;have m3:=F.called_set.sub;have m4:=F.called_set.notType;have m5:=F.called_set.canCreate;have m6:=F.typeCall_set_1 (.ref t);refine A4S (codeAny_of_tree (show wpAny _ _ (callAny (.type "set") _) _ _ _ from ?_));refine A07 ⟨A5A _ (by decide +kernel),A3Z F.entry_type_call ?_⟩;rw[Around.under_plain (weight_type_call_type "set" [Value.ref t] []) rfl]
 repeat (any_goals (first | assumption | wp_step))
 refine A43 (code_set_new_1 (Value.ref t) (E:=E) (Q₁:=λx s₁=>∃ O:Bool,x = .ref s.heap.objs.size/\s₁={s with heap:=s.heap.push (Ls O)}) λO=>⟨O,rfl,rfl⟩) λr s₁ Z=>?_
 cases r with
 |error e=>exact Z
 |ok fl=>
   cases fl with
   |ret x=>
     obtain⟨O,rfl,rfl⟩:=Z;have hN:(s.heap.push (Ls O)).get? s.heap.objs.size=some (Ls O):=A0F _ rfl;have hT:Shared.TypeIs {s with heap:=s.heap.push (Ls O)} (.ref s.heap.objs.size) "set":=⟨_,hN,rfl⟩
     have n1:=F.called_set.init.lookup;have n2:=F.called_set.init.bind (.ref s.heap.objs.size)
     repeat (any_goals (first | assumption | wp_step))
     refine A43 (A4W (R:=wants (λr s₂=>r = .none/\∃ h' k,s₂={s with heap:=h',toks:=k}/\ax0 prog w s ns h') E) F.called_set.init.plain F.entry_set_init (check_set_init_1 hT ?_)) λr₂ s₂ a0=>?_
     . obtain⟨⟨oc,od,a9,osl⟩,g1,g2,nl,g3⟩:=id ht;simp only at g2 g3;subst g2 g3;have g4:(s.heap.push (Ls O)).get? t=some {cls:=.type "tuple",dict:=od,data:=.seq U.toArray nl,slots:=osl}:=A04 _ g1;have q1:=Sr;have q2:=Qx;have q3:(Value.type "tuple" == Value.type "dict")=false:=by decide
       have a1:(s.heap.push (Ls O)).IsTuple t U.toArray:=⟨_,g4,rfl,nl,rfl⟩;unfold Builtin.«set.__init__» noKeywords Builtin.Frozenset.updateFrom;generalize a4:pyIter=PI
       wp_walk
       subst a4;refine A2G a1 (A02 (wpAny_runValue ?_));have a2:t<s.heap.objs.size:=A09 g1;have hz:(s.heap.push (Ls O)).objs.size=s.heap.objs.size+1:=A1U ..;refine a64 ((Walks.tuple (by simp[hh]) _ t (by rw[hz];exact Nat.ne_of_lt (Nat.lt_succ_of_lt a2)) U.toArray).toS) s.heap.objs.size (by rw[hz];simp only[List.mem_cons,List.not_mem_nil,or_false,not_or];exact⟨Nat.ne_of_lt (Nat.lt_succ_self _),Nat.ne_of_gt a2⟩) ns (λi v a6=>?_) (by rw[List.size_toArray];omega) (by rw[List.size_toArray];omega) _ 0 _ rfl (Nat.zero_le _) ⟨⟨_,Heap.get?_push_size _ rfl,rfl,rfl⟩,a1.push _⟩ ?_ ?_
       . have a3:U[i]? = some v:=by rw[<- A21];exact a6
         have hi:i<ns.length:=by have:=(A03.mp a3).1;omega
         obtain⟨u,hu,ru⟩:=hv.get (i:=i) (x:=.str ns[i]) (by rw[A06,A00 hi];rfl);rw[a3] at hu
         cases hu;obtain⟨k,rfl⟩:=ru;exact⟨_,k,A00 hi,rfl⟩
       . have e:inS (ns.take 0)=λ_=>false:=funext λk=>by cases k<;>simp[inS]
         rw[e];exact⟨Ls O,#[],0,.fresh 0 0 O,Heap.get?_push_of_some _ hN,⟨rfl,rfl,rfl⟩,rfl,(λe he=>by simp at he),(λk=>by simp),by simp[scanBound],rfl,rfl⟩
       intro s' hm a5;obtain⟨h',g',d',k',a7⟩:=s';have eg:g'=s.gens:=hm.gens;have ed:d'=s.drawn:=hm.drawn;have eo:a7=s.os:=hm.os;subst eg ed eo;refine A07 ?_;show wpAny _ _ (ret Value.none) _ _ _;refine A07 ⟨rfl,h',k',rfl,a5,λb o Y e=>hm.heap b o ?_ (A04 _ (A04 _ e))⟩;rw[hz];simp only[List.mem_cons,List.not_mem_nil,or_false,not_or];exact⟨A0N Y,A0N (A34 Y)⟩
     cases r₂ with
     |error e=>exact a0
     |ok fl₂=>
       cases fl₂ with
       |ret r=>
         obtain⟨rfl,h',k,rfl,hS⟩:=a0
         repeat (any_goals (first | assumption | wp_step))
         exact h _ _ hS
       |_=>exact a0.elim
   |_=>exact Z.elim
end
section
variable {X:Cx}{K:W.Frag}
def Zq (K:W.Frag):List V->Hp->VK->Prop:=λvs H Q=>∃ a ns,vs=[.ref a]/\SqT K H a (ns.map V.str)/\ns.length<=1000/\Q (.int ((Cp [] ns).length:Nat)) H
theorem Qc {e:Expr}{ta:TA}{p p2 pos F:Pos}(hc:X.A.handled=none)(hg:Gl X "len")(hm:X.mg "len" = none)(a3:Gl X "set")(a4:X.mg "set" = none)(ha:PA X [e] ta)(Z:X.K=K:=by ac_nf)
 (hs:starEach [e] X.env=[(false,eval e X.env)]:=by ac_nf) (U:starEach [.Call (.Name "set" p2) [e] [] F] X.env=[(false,eval (.Call (.Name "set" p2) [e] [] F) X.env)]:=by ac_nf) :
 PE X (.Call (.Name "len" p) [.Call (.Name "set" p2) [e] [] F] [] pos) (tCB (Zq K) ta):=by
 subst Z;intro pins s σ H Q I h;refine A2X (Kh I hg hm PyProof.Rows.Boot.«len» ?_ ∅ ∅);refine PyProof.Rows.callWith_builtin1 ?_ U rfl;rw[U];show wpAny _ _ (spliced ((false,eval (.Call (.Name "set" p2) [e] [] F) X.env) :: backTo pos [])) _ _ s;refine A42 ?_;refine A2X (Kh I a3 a4 PyProof.Rows.Boot.«set» ?_ ∅ ∅);refine A1V (thn (ha F pins s σ H _ I h) λus s1 ⟨vs,H1,O,r1,q1⟩=>?_) hs rfl;obtain⟨a,ns,rfl,hq,hz,q⟩:=q1;obtain⟨u,rfl,ru⟩:=Vals.one r1
 cases ru;obtain⟨a6,rv,ht,a5⟩:=O.tuple hq;refine Zs hc ht rv (by unfold scanBound;omega) λh' k hS=>?_;obtain⟨a0,a1⟩:=hS;have Y:Inv X pins σ H1 {s1 with heap:=h',toks:=k}:=O.kept (t':=k) λb o e=>a1 b o (A09 e) e
 refine Calls.spliced_nil ?_;obtain⟨o,es,ep,t,ho,a2,hd,_,_,hb,hf,hn⟩:=a0;refine call_len_set ho a2 hd hf (by unfold scanBound at hb;omega) ?_;exact⟨.int _,H1,Y.tok _,⟨_,by rw[hn]⟩,q⟩
def U8 {ns:List Str}(h:SqT K H a (ns.map V.str))(hz:ns.length<=1000)(k:Q (.int ((Cp [] ns).length:Nat)) H):Zq K [.ref a] H Q:=⟨a,ns,rfl,h,hz,k⟩
end
def ac4 (h:O0 z=true):z.length<=8:=(Vt h).2
def S5 {ns:List Str}(h:ns.Nodup):(Cp [] ns).length=ns.length:=A3F (Qk ns) (Be h λz hz=>mem_addAll.mpr (.inr hz))
section
variable {K:W.Frag}
end
theorem K6 (ns:List Int):∀ j ≤ ns.length,preSum (λi=>ns.getD i 0) j=(ns.take j).sum
 |0,_=>by simp[preSum]
 |j+1,h=>by rw[preSum,K6 ns j (by omega),A0U,Pk (y:=0) (by omega:j<ns.length)];simp
theorem R9:∀ {ns:List Int},(∀ n∈ns,0<=n/\n<=1000000000000)->0<=ns.sum/\ns.sum<=1000000000000*(ns.length:Int)
 | [],_=>by simp
 |n :: ns,h=>by have h1:=h n (by simp);have h2:=R9 λm hm=>h m (A0I _ hm);rw[A26,A0X];omega
section
variable {X:Cx}{K:W.Frag}
def aD9 (K:W.Frag):List V->Hp->VK->Prop:=λxs H Q=>∃(a:Addr) (ns:List Int),xs=[.ref a]/\(SqL K H a (ns.map V.int)\/SqT K H a (ns.map V.int))/\(∀ n∈ns,0<=n/\n<=1000000000000)/\ns.length<=1000000/\Q (.int ns.sum) H
def a89 {ns:List Int}{F:List Value}(r:Vals (ns.map V.int) F){v:Value}(h:F.toArray[i]? = some v):∃ t,v = .int (ns.getD i 0) t:=by
 rw[A21] at h;have hl:=r.length;rw[A01] at hl
 have hi:i<ns.length:=by have:=(A03.mp h).1;omega
 obtain⟨u,hu,ru⟩:=r.get (i:=i) (x:=.int (ns.getD i 0)) (by rw[A06,Pk (y:=0) hi];rfl);rw[h] at hu
 cases hu;exact ru
theorem a01 (hc:X.calm=true):CallR X (.builtin "sum") (aD9 X.K):=by
 intro pins s σ H xs us Q I r h;obtain⟨a,ns,rfl,hl,hb,hz,q⟩:=h;obtain⟨u,rfl,ru⟩:=Jq r
 cases ru
 have fits:∀ j,j<ns.length->InLong (ns.getD j 0)/\InLong (preSum (λi=>ns.getD i 0) (j+1)):=λj hj=>by have h1:=hb _ (A05 (Pk (y:=0) hj));have h2:=R9 (ns:=ns.take (j+1)) λn hn=>hb n (A1Y hn);rw[K6 ns (j+1) hj];rw[A0S] at h2;unfold InLong;omega
 have last:preSum (λi=>ns.getD i 0) ns.length=ns.sum:=by rw[K6 ns _ (A0B _),A14]
 refine call_sum_walk ?_;rcases hl with hl|hl
 . obtain⟨Z,rv,F,_⟩:=I.list hl;have U:Z.toArray.size=ns.length:=by rw[A0E,<- rv.length,A01]
   have Y:a<s.heap.objs.size:=let ⟨_,e,_⟩:=F.isList;A09 e;refine A2A F.isList ?_;refine⟨_,_,_,_,_,_,λi=>ns.getD i 0,rfl,Walks.list (by simpa using I.ok.hd hc) _ a (Nat.ne_of_lt Y) Z.toArray,⟨⟨_,Heap.get?_push_size _ rfl,rfl,rfl⟩,F.isList.push _⟩,λb O=>?_,λi v hv=>a89 rv hv,by rw[U];exact fits,λh' tk t' hk=>?_⟩
   . rw[A1U];simp only[List.mem_cons,List.not_mem_nil,or_false] at O;rcases O with rfl|rfl
     . exact Nat.lt_succ_self _
     exact A34 Y
   refine⟨.int ns.sum,H,I.kept (t':=tk) λb o e=>hk b o (λz=>?_) (A04 _ e),⟨t',by rw[U,last]⟩,q⟩;have:b=s.heap.objs.size:=by simpa using z
   subst this;exact absurd (A09 e) (A2E _)
 obtain⟨Z,rv,F,_⟩:=I.tuple hl;have U:Z.toArray.size=ns.length:=by rw[A0E,<- rv.length,A01]
 have Y:a<s.heap.objs.size:=let ⟨_,e,_⟩:=F;A09 e;refine A2G F ?_;refine⟨_,_,_,_,_,_,λi=>ns.getD i 0,rfl,Walks.tuple (by simpa using I.ok.hd hc) _ a (Nat.ne_of_lt Y) Z.toArray,⟨⟨_,Heap.get?_push_size _ rfl,rfl,rfl⟩,Heap.IsTuple.push F _⟩,λb O=>?_,λi v hv=>a89 rv hv,by rw[U];exact fits,λh' tk t' hk=>?_⟩
 . rw[A1U];simp only[List.mem_cons,List.not_mem_nil,or_false] at O;rcases O with rfl|rfl
   . exact Nat.lt_succ_self _
   exact A34 Y
 refine⟨.int ns.sum,H,I.kept (t':=tk) λb o e=>hk b o (λz=>?_) (A04 _ e),⟨t',by rw[U,last]⟩,q⟩;have:b=s.heap.objs.size:=by simpa using z
 subst this;exact absurd (A09 e) (A2E _)
def Mi (O:X.calm=true)(F:X.K=K:=by ac_nf):CallR X (.builtin "sum") (aD9 K):=F ▸ a01 O
def ap9 {ns:List Int}(h:SqL K H a (ns.map V.int)\/SqT K H a (ns.map V.int))(F:∀ n∈ns,0<=n/\n<=1000000000000)(hz:ns.length<=1000000)(k:Q (.int ns.sum) H):aD9 K [.ref a] H Q:=⟨a,ns,rfl,h,F,hz,k⟩
end
section
variable {prog:Program}{w:World}{A:Around}{E:Value->Shared->Prop}{s:Shared}
end
section
variable {X:Cx}{K:W.Frag}
end
section
variable {prog:Program}{w:World}{A:Around}{E:Value->Shared->Prop}{s:Shared}
theorem R5 {t:Addr}{vs:List Value}{ss:List Str}{T:String}{n:Nat}{o:Obj}{Q:Value->Shared->Prop}(hT:T = "list" \/ T = "tuple")(ho:s.heap.get? t=some o)(hc:o.cls = .type T)(hd:o.data = .seq vs.toArray n)(U:StrsAre vs ss)(a2:vs.length<64)
 (h:∀(h1 h':Heap) (out:List Value) (e:Nat) (O:List Str),(∀ b F,s.heap.get? b=some F->h1.get? b=some F)->(∀ b F,h1.get? b=some F->h'.get? b=some F)->h'.get? h1.objs.size=some (seqObj "list" out.toArray e)->StrsAre out O->O.Perm ss->sortedS O=true->Q (.ref h1.objs.size) {s with heap:=h'}) :
 wpAny (model prog w) A (call (.builtin "sorted") [.ref t]) Q E s:=by
 refine Calls.call_function_entry kind_sorted plain_sorted entry_sorted (args_sorted1 _) ?_;unfold Builtin.«sorted»;refine A02 (m:=checkCount "sorted" 1 1 _) (A07 ?_);refine A02 (wpAny_collect_seq t hT ho hc hd (λh1 k1=>?_) (by rw[A0E,A0T];omega));refine wpAny_bind (wpAny_newList ?_ (by simp only[List.size_toArray];rw[sizeLine_eq];omega));have Y:(h1.push (seqObj "list" vs.toArray 0)).get? h1.objs.size=some (seqObj "list" vs.toArray 0):=A0F _ rfl;show wpAny _ _ _ _ _ {s with heap:=h1.push (seqObj "list" vs.toArray 0)}
 refine A02 (A19 (A24 slot_list_sort ⟨_,Y,rfl⟩ entry_list_sort (list_sort_treeK strKind_oneLt Y U.keysOf (λv₁ v₂ r e=>keyKind_strs (by rw[<- e];exact U)) a2 λa1 hp hs=>⟨_,rfl,?_⟩) (args_list_sort _)));obtain⟨O,q1,q2,q3⟩:=sorted_out_str U hp hs;obtain⟨e,he⟩:=sortedHeap_at (out:=(arrOf a1).map (·.2)) Y;refine A07 ⟨_,rfl,h h1 _ ((arrOf a1).map (·.2)).toList e O k1 (λb F Z=>?_) (by rw[Array.toArray_toList];exact he) q1 q2 q3⟩;have a0:=A09 Z;rw[sortedHeap_old (A0N a0) (by rw[size_push'];exact A34 a0)];exact A04 _ Z
end
theorem Rn:∀ {us:List Value} {ys:List Str},StrsAre us ys->Vals (ys.map V.str) us
 |_,_,.nil=>.nil
 |_,_,.cons y t h=>.cons ⟨t,rfl⟩ (Rn h)
section
variable {X:Cx}{K:W.Frag}
def T5 (K:W.Frag):List V->Hp->VK->Prop:=λxs H Q=>∃(a:Addr) (ns:List Str),xs=[.ref a]/\(SqL K H a (ns.map V.str)\/SqT K H a (ns.map V.str))/\ns.length<64/\∀ p (ms:List Str),H p=none->ms.Perm ns->sortedS ms=true->Q (.ref p) (upd H p (.lst (ms.map V.str)))
theorem Sl:CallR X (.builtin "sorted") (T5 X.K):=by
 intro pins s σ H xs us Q I r h;obtain⟨a,ns,rfl,hl,hz,q⟩:=h;obtain⟨u,rfl,ru⟩:=Jq r
 cases ru
 have a1:∀(vs:List Value),Vals (ns.map V.str) vs->∀(h1 h':Heap) (out:List Value) (e:Nat) (O:List Str),(∀ b U,s.heap.get? b=some U->h1.get? b=some U)->(∀ b U,h1.get? b=some U->h'.get? b=some U)->h'.get? h1.objs.size=some (seqObj "list" out.toArray e)->StrsAre out O->O.Perm ns->sortedS O=true->EP X pins σ Q (.ref h1.objs.size) {s with heap:=h'}:=λvs F h1 h' out e O k1 k2 he q1 q2 q3=>by
  have I1:Inv X pins σ H {s with heap:=h1}:=I.kept (t':=s.toks) k1
  exact⟨.ref _,_,I1.laid (t':=s.toks) (o:=.lst (O.map V.str)) k2 (A0B _) ⟨by rw[A01,q2.length_eq,A0T];omega,out,e,Rn q1,he⟩,rfl,q _ O (I1.hok.fresh (A0B _)) q2 q3⟩
 rcases hl with hl|hl
 . obtain⟨a0,F,⟨o,n,h1,h2,_,Y⟩,_⟩:=I.list hl;have Z:=F.length;rw[A01] at Z;exact R5 (.inl rfl) h1 h2 Y (Te F) (by omega) (a1 a0 F)
 obtain⟨a0,F,⟨o,h1,h2,n,Y⟩,_⟩:=I.tuple hl;have Z:=F.length;rw[A01] at Z;exact R5 (.inr rfl) h1 h2 Y (Te F) (by omega) (a1 a0 F)
def S6 (F:X.K=K:=by ac_nf):CallR X (.builtin "sorted") (T5 K):=F ▸ Sl
def a43 {ns:List Str}(h:SqL K H a (ns.map V.str)\/SqT K H a (ns.map V.str))(hz:ns.length<64)(k:∀ p (ms:List Str) H',H p=none->Same H H'->H' p=some (.lst (ms.map V.str))->ms.Perm ns->sortedS ms=true->Q (.ref p) H'):T5 K [.ref a] H Q:=
 ⟨a, ns,rfl,h,hz,λp ms F h1 h2=>k p ms _ F (Same.upd F) Aj h1 h2⟩
end
theorem N6:∀(p:Str) (l:List Str),risingS p l=true->∀ y∈l,¬ y.cps.toList<p.cps.toList
 |p,[],_,y,h=>nomatch h
 |p,x :: r,h,y,hy=>by
   have h':(!ltCps x.cps.toList p.cps.toList&&risingS x r)=true:=h;rw[A0W,A3O,ltCps_eq,decide_eq_false_iff_not] at h';rcases A0G.mp hy with rfl|hy
   . exact h'.1
   have F:=N6 x r h'.2 y hy;exact A3A.mpr (List.le_trans (A3A.mp h'.1) (A3A.mp F))
def Nn {r:List Str}(h:sortedS (x :: r)=true):sortedS r=true:=by
 cases r with
 |nil=>rfl
 |cons y r=>have h':(!ltCps y.cps.toList x.cps.toList&&risingS y r)=true:=h;rw[A0W] at h';exact h'.2
theorem O7:∀ {a b:List Str},a.Perm b->sortedS a=true->sortedS b=true->a=b
 | [],b,p,_,_=>(List.nil_perm.mp p).symm
 |x :: a,[],p,_,_=>absurd p.length_eq (by simp)
 |x :: a,y :: b,p,ha,hb=>by
   have F:x=y:=by
    have h1:x=y\/x∈b:=by simpa using p.mem_iff.mp List.mem_cons_self
    have h2:y=x\/y∈a:=by simpa using p.symm.mem_iff.mp List.mem_cons_self
    rcases h1 with e|h1
    . exact e
    rcases h2 with e|h2
    . exact e.symm
    have O:=N6 x a ha y h2;have U:=N6 y b hb x h1;exact Str.ext' (Array.toList_inj.mp (List.le_antisymm (A3A.mp O) (A3A.mp U)))
   subst F;rw[O7 (List.Perm.cons_inv p) (Nn ha) (Nn hb)]
section
variable {α:Type}[DecidableEq α]
def frF (b:α->α->Bool)(L:List α):List α:=L.filter λx=>!(L.any λy=>b y x)
def Di (L:List α)(x:α):List α:=L.filter λy=>!decide (y=x)
def ext (b:α->α->Bool):Nat->List α->List (List α)
 |0,_=>[[]]
 |n+1,L=>(frF b L).flatMap λx=>(ext b n (Di L x)).map (x :: ·)
def cnt (b:α->α->Bool)(L:List α):Nat:=(ext b L.length L).length
def mem_frF {b:α->α->Bool}{L:List α}{x:α}:x∈frF b L↔x∈L/\∀ y∈L,b y x=false:=by
 unfold frF;rw[A0V];constructor
 . rintro ⟨h1,h2⟩;refine⟨h1,λy F=>?_⟩
   cases e:b y x with
   |false=>rfl
   |true=>
     have:(L.any λy=>b y x)=true:=A2U.mpr ⟨y,F,e⟩;rw[this] at h2
     cases h2
 rintro⟨h1,h2⟩;refine⟨h1,?_⟩
 have:(L.any λy=>b y x)=false:=by
  rw[Bool.eq_false_iff];intro h;obtain⟨y,F,e⟩:=A2U.mp h;rw[h2 y F] at e
  cases e
 rw[this];rfl
def mem_lessF {L:List α}{x y:α}:y∈Di L x↔y∈L/\y≠x:=by unfold Di;rw[A0V];simp
def Jm {L:List α}(h:L.Nodup)(x:α):(Di L x).Nodup:=List.Nodup.sublist (A1P) h
def U5:∀ {L:List α} {x:α},x∉L->Di L x=L:=fun {L x} h=>by unfold Di;rw[A3B];intro y F;have:y≠x:=λq=>h (q ▸ F);simp[this]
theorem Hg:∀ {L:List α} {x:α},L.Nodup->x∈L->(Di L x).length+1=L.length
 | [],_,_,h=>by cases h
 |y :: ys,x,hn,h=>by
   obtain⟨h1,h2⟩:=A12.mp hn
   by_cases e:y=x
   . subst e;have:Di (y :: ys) y=Di ys y:=by unfold Di;rw[List.filter_cons,if_neg (by simp)]
     rw[this,U5 h1];rfl
   have:Di (y :: ys) x=y :: Di ys x:=by unfold Di;rw[List.filter_cons,if_pos (by simp[e])]
   rw[this,A0X,Hg h2 ((A0G.mp h).resolve_left λq=>e q.symm)];rfl
def aw3 {b:α->α->Bool} {L:List α} (hn:L.Nodup) (F:L≠[]):cnt b L=((frF b L).map λx=>cnt b (Di L x)).sum:=by
 unfold cnt
 cases hl:L.length with
 |zero=>exact absurd (A1D.mp hl) F
 |succ n=>
   show((frF b L).flatMap λx=>(ext b n (Di L x)).map (x :: ·)).length=_;rw[List.length_flatMap];congr 1;apply A2S;intro x O;have:=Hg hn (mem_frF.mp O).1;have e:(Di L x).length=n:=by omega
   rw[A01,e]
theorem aa7 {f g:α->Nat}:∀ {l:List α},(∀ x∈l,f x<=g x)->(l.map f).sum<=(l.map g).sum
 | [],_=>A0B _
 |x :: xs,h=>by have h1:=h x (by simp);have h2:=aa7 (l:=xs) (f:=f) (g:=g) λy F=>h y (by simp[F]);simp;omega
theorem Jx {p q:α->Bool}:∀ {l:List α},(∀ a∈l,p a=true->q a=true)->(∃ z∈l,q z=true/\p z=false)->(l.filter p).length<(l.filter q).length
 | [],_,h=>by obtain⟨z,hz,_⟩:=h;cases hz
 |y :: ys,h,hz=>by
   have le:∀ l:List α,(∀ a∈l,p a=true->q a=true)->(l.filter p).length<=(l.filter q).length:=by
    intro l
    induction l with
    |nil=>intro _;exact A0B _
    |cons a l F=>
      intro h;have:=F λa ha=>h a (by simp[ha]);rw[A1J,A1J]
      cases c:p a with
      |true=>rw[if_pos rfl,if_pos (h a (by simp) c)];simpa using this
      |false=>
        rw[if_neg (by simp)]
        split
        . simp;omega
        exact this
   rw[A1J,A1J];obtain⟨z,hz,U,O⟩:=hz;rcases A0G.mp hz with rfl|hz
   . rw[O,if_neg (by simp),if_pos U,List.length_cons];have:=le ys λa ha=>h a (by simp[ha]);omega
   have F:=Jx (l:=ys) (λa ha=>h a (by simp[ha])) ⟨z,hz,U,O⟩
   cases c:p y with
   |true=>rw[if_pos rfl,if_pos (h y (by simp) c)];simpa using F
   |false=>
     rw[if_neg (by simp)]
     split
     . simp;omega
     exact F
theorem Yr {b:α->α->Bool}(irr:∀ x,b x x=false)(tr:∀ x y z,b x y=true->b y z=true->b x z=true){L:List α}:∀(m:Nat) (y:α),y∈L->(L.filter λz=>b z y).length<=m->∃ x∈frF b L,x=y\/b x y=true
 |m,y,hy,hm=>by
   by_cases c:∃ z∈L,b z y=true
   . obtain ⟨z,hz,F⟩:=c;have lt:(L.filter λa=>b a z).length<(L.filter λa=>b a y).length:=Jx (λa _ h=>tr a z y h F) ⟨z,hz,F,irr z⟩
     cases m with
     |zero=>omega
     |succ m=>
       obtain⟨x,O,h⟩:=Yr irr tr m z hz (by omega);refine⟨x,O,.inr ?_⟩;rcases h with rfl|h
       . exact F
       exact tr x z y h F
   refine⟨y,mem_frF.mpr ⟨hy,λz hz=>?_⟩,.inl rfl⟩
   cases e:b z y with
   |false=>rfl
   |true=>exact absurd ⟨z,hz,e⟩ c
def az7 {b:α->α->Bool}(irr:∀ x,b x x=false)(tr:∀ x y z,b x y=true->b y z=true->b x z=true){L:List α}(h:L≠[]):frF b L≠[]:=by
 cases L with
 |nil=>exact absurd rfl h
 |cons y ys=>
   obtain⟨x,F,_⟩:=Yr irr tr (L:=y :: ys) _ y (by simp) (Nat.le_refl _);intro e;rw[e] at F
   cases F
end
def FnOk.void {P:Program}{w:World}{K:W.Frag}{mg:Str->Option Value}{base:Heap}{CX:CXT}{k:Nat}{f:Addr}{fd:FuncData}{ps:List Str}{sp:Sp}(h:∀ vs H Q E,¬ sp vs H Q E):FnOk P w K mg base CX k f fd ps sp:=
 ⟨λvs H Q E q=>absurd q (h vs H Q E),λA outer s H args us vs Q E _ _ _ _ hs=>absurd hs (h vs H Q E)⟩
section
variable {X:Cx}{K:W.Frag}{k:Nat}{C:Addr}{f m:Str}{ps:List Str}{sp:Sp}{e o value:Expr}{es:List Expr}{ta tv:TE}{t:TA}{p pos pos' apos:Pos}
end
section
variable {K:W.Frag}{C:Addr}{f m:Str}{sp:Sp}{ta tv:TE}{t:TA}{σ:St}{D:Ends}
end
section
variable {X:Cx}{K:W.Frag}
end
section
variable {X:Cx}
end
section
variable {α:Type}[DecidableEq α]
end
section
variable {K:W.Frag}{C:Addr}{p dx:Addr}{nv:V}{bd ad kd:Addr}{ns:List Str}{ps:List (Str×Str)}{kvs':List (Key×V)}
end
def a49 {ns:List Str}{ps:List (Str×Str)}(h:HalfW ns ps)(x:Str):Ck ps x x=false:=Ot (h.irr x)
def an4 {ps:List (Str×Str)}(x y z:Str)(h:Ck ps x y=true)(g:Ck ps y z=true):Ck ps x z=true:=wayB_iff.mpr ((wayB_iff.mp h).trans (wayB_iff.mp g))
section
variable {α:Type}[DecidableEq α]
end
def ag8 {p:Key×V}{r:List (Key×V)}{k:Key}(h:¬ p.1=k):Io (p :: r) k v=p :: Io r k v:=by
 unfold Io;rw[A2F,A0H h,A4F]
 by_cases c:(r.any λkv=>decide (kv.1=k))=true
 . rw[A0K c,A0K c,A0P,A0J h]
 rw[A0J c,A0J c];rfl
def af2 {p:Key×V}{r:List (Key×V)}(h:p.1∉r.map (·.1)):Io (p :: r) p.1 v=(p.1,v) :: r:=by
 unfold Io;rw[A2F,A0D rfl,Bool.true_or,A0K rfl,A0P,A0K rfl];congr 1
 conv=>rhs;rw[<- List.map_id r]
 apply A2S;intro kv F;rw[A0J λq=>h (A0A.mpr ⟨kv,F,q⟩)];rfl
section
variable {K:W.Frag}{σ:St}{td ty tx:TE}
def a88 (ty tx:TE)(σ:St):V->Hp->VK->Prop:=λx H1 Q=>∃ a,x = .ref a/\IsD H1 a/\ty σ H1 λy H2=>tx σ H2 λz F=>∃ o,DGet F a y o/\Q (o.getD z) F
def i_dget2 (k:td σ H λx H1=>a88 ty tx σ x H1 Q):ac5 td ty tx σ H Q:=k
def Uy (h:H a=some (.dK kvs))(k:ty σ H λy H2=>tx σ H2 λz F=>∃ o,DGet F a y o/\Q (o.getD z) F):a88 ty tx σ (.ref a) H Q:=⟨a,rfl,.inl ⟨kvs,.inl h⟩,k⟩
end
section
variable {K:W.Frag}{C:Addr}{p dx:Addr}{nv:V}{bd ad kd:Addr}{ns:List Str}{ps:List (Str×Str)}
end
section
variable {K:W.Frag}{σ:St}
end
theorem Nx {prog:Program}{w:World}{κ:Type}[DecidableEq κ](knd:KeyKind prog w κ)(d:Addr) :
 MeetsIn prog w (Builtin.«dict.update» ⟨[.ref d,.ref d],[]⟩) (λ_ R s=>(∃ kvs,s.heap.DictOf knd d kvs)/\R (.ok (.ret .none)) s):=
 .of_wp λA R s O=>by obtain⟨⟨kvs,hd⟩,h⟩:=O;unfold Builtin.«dict.update» Builtin.Dict.selfAndRest;refine A02 (A02 (A4Q hd.typeIs ?_));show wpAny _ _ (pure (d,[Value.ref d])) _ _ s;refine A07 ?_;show wpAny _ _ (Builtin.Dict.updateFrom "dict.update" d (.ref d) [] .none) _ _ s;unfold Builtin.Dict.updateFrom Builtin.Dict.merge Builtin.Dict.readDirectly;refine A02 (A4M hd.typeIs ?_);rw[A0J ∅];refine A02 (A02 (A02 (A37 hd.typeIs isSubtype_dict_dict ?_)));simp only[Bool.not_true,Bool.false_eq_true,if_false];refine A02 (wpAny_specialOf hd.typeIs F.slot_dict_iter.lookup (A07 ?_));simp only[beq_self_eq_true,if_true];refine A02 (A07 ?_);unfold Builtin.Dict.mergeDict;rw[if_pos (by simp)];refine A02 (A4T (A07 ?_));show wpAny _ _ (Builtin.Dict.addKeywords d [] >>= _) _ _ _;exact A02 (A07 (A07 ⟨.none,rfl,h⟩))
def Vg:V->List V->Hp->VK->Prop:=λx vs H Q=>∃ d kvs,x = .ref d/\vs=[.ref d]/\H d=some (.dK kvs)/\Q .non H
def Pp:V->List V->Hp->VK->Prop:=λx vs H Q=>Ti x vs H Q\/Vg x vs H Q
section
variable {X:Cx}{K:W.Frag}
def Wl:MtM X "dict.update" Vg:=by
 intro pins s σ H x vs v us Q I Z Y h;obtain⟨d,kvs,rfl,rfl,U,q⟩:=h
 cases Z;obtain⟨u,rfl,ru⟩:=Y.one
 cases ru;obtain⟨z1,a1,a0,a2,O⟩:=Ox I.hok U;refine call_meetsIn F.slot_dict_update O.typeIs F.entry_dict_update (F.args_dict_update_2 _ _) (Nx (Ax X.prog X.w) d) ⟨⟨a0,O⟩,?_⟩;exact⟨.non,H,I.tok s.toks,rfl,q⟩
def Vz:MtM X "dict.update" Pp:=by
 intro pins s σ H x vs v us Q I O F h;rcases h with h|h
 . exact Xa pins s σ H x vs v us Q I O F h
 exact Wl pins s σ H x vs v us Q I O F h
end
def au1 {d o:Addr}(hd:H d=some (.dK (Em ks)))(O:H o=some (.dK (Em ms)))(F:d≠o)(hz:ks.length+ms.length<=1000000)(k:∀ H',ExtBut d H H'->H' d=some (.dK (Em (Cp ks ms)))->Q .non H'):Pp (.ref d) [.ref o] H Q:=.inl (aD8 hd O F hz k)
def aw2 {d:Addr}(hd:H d=some (.dK kvs))(k:Q .non H):Pp (.ref d) [.ref d] H Q:=.inr ⟨d,kvs,rfl,rfl,hd,k⟩
structure aj5 (ns:List Str)(ps:List (Str×Str)):Prop where
 nd:ns.Nodup
 mem:∀ p∈ps,p.1∈ns/\p.2∈ns
 few:ns.length<=100
 le:ps.length<=1100
def HalfW.c {ns:List Str}{ps:List (Str×Str)}(h:HalfW ns ps):aj5 ns ps:=⟨h.nd,h.mem,h.few,A0M h.le ∅⟩
instance {ns:List Str} {ps:List (Str×Str)}:Coe (HalfW ns ps) (aj5 ns ps):=⟨HalfW.c⟩
section
variable {α:Type}[DecidableEq α]
def okR (b:α->α->Bool) (r:List α):Prop:=(∀ u∈r,b u u=false)/\r.Pairwise λu v=>b v u=false
def Ql {L:List α}(hn:L.Nodup){x:α}(O:x∈L):(x :: Di L x).Perm L:=by
 induction L with
 |nil=>cases O
 |cons y ys ih=>
   obtain⟨h1,h2⟩:=A12.mp hn
   by_cases e:y=x
   . subst e
     have:Di (y :: ys) y=ys:=by
      have F:Di (y :: ys) y=Di ys y:=by unfold Di;rw[List.filter_cons,if_neg (by simp)]
      rw[F,U5 h1]
     rw[this]
   have F:Di (y :: ys) x=y :: Di ys x:=by unfold Di;rw[List.filter_cons,if_pos (by simp[e])]
   rw[F];exact(List.Perm.swap y x _).trans ((ih h2 ((A0G.mp O).resolve_left λq=>e q.symm)).cons y)
theorem Ta (b:α->α->Bool):∀(n:Nat) (L r:List α),L.Nodup->L.length=n->(r∈ext b n L↔r.Perm L/\okR b r)
 |0,L,r,_,hl=>by
   have:=A1D.mp hl;subst this;constructor
   . intro h;have:r=[]:=by simpa[ext] using h
     subst this;exact⟨.refl _,(λ_ h=>by cases h),List.Pairwise.nil⟩
   rintro⟨h,_⟩;have:r=[]:=List.perm_nil.mp h;subst this;simp[ext]
 |n+1,L,r,hn,hl=>by
   constructor
   . intro h;obtain⟨x,hx,h⟩:=List.mem_flatMap.mp h;obtain⟨t,ht,rfl⟩:=A0A.mp h;have F:=mem_frF.mp hx;have Z:=Hg hn F.1;obtain⟨h1,h2,Y⟩:=(Ta b n (Di L x) t (Jm hn x) (by omega)).mp ht;refine⟨(h1.cons x).trans (Ql hn F.1),λu hu=>?_,List.pairwise_cons.mpr ⟨λv hv=>F.2 v (mem_lessF.mp (h1.mem_iff.mp hv)).1,Y⟩⟩;rcases A0G.mp hu with rfl|hu
     . exact F.2 u F.1
     exact h2 u hu
   rintro⟨O,hd,a0⟩
   cases r with
   |nil=>
     have:=O.length_eq;rw[hl] at this
     cases this
   |cons x t=>
     have F:x∈L:=O.mem_iff.mp (by simp);have Z:=Hg hn F;have U:t.Perm (Di L x):=List.Perm.cons_inv (O.trans (Ql hn F).symm);obtain⟨q1,q2⟩:=List.pairwise_cons.mp a0;refine List.mem_flatMap.mpr ⟨x,mem_frF.mpr ⟨F,λy hy=>?_⟩,List.mem_map.mpr ⟨t,(Ta b n (Di L x) t (Jm hn x) (by omega)).mpr ⟨U,λu hu=>hd u (by simp[hu]),q2⟩,rfl⟩⟩
     by_cases e:y=x
     . rw[e];exact hd x (by simp)
     exact q1 y (U.mem_iff.mpr (mem_lessF.mpr ⟨hy,e⟩))
def Vk {β:Type}[DecidableEq β]{xs ys:List β}(h1:xs.Nodup)(h2:ys.Nodup)(h:∀ z,z∈xs↔z∈ys):xs.length=ys.length:=
 A3F (Be h1 λz hz=>(h z).mp hz) (Be h2 λz hz=>(h z).mpr hz)
end
theorem Ur:∀ {r:List Str} {x:Str},x∈r->r[r.idxOf x]? = some x/\(∀ m<r.idxOf x,r[m]? ≠ some x)/\r.idxOf x<r.length
 | [],_,h=>by cases h
 |y :: ys,x,h=>by
   rw[List.idxOf_cons]
   by_cases e:y=x
   . subst e;simp
   have O:(y==x)=false:=by simpa using e
   obtain⟨h1,h2,F⟩:=Ur ((A0G.mp h).resolve_left λq=>e q.symm);rw[O];refine⟨h1,λm hm=>?_,by simpa using F⟩
   cases m with
   |zero=>simpa using e
   |succ m=>exact h2 m (by simpa using hm)
theorem ay9 {ns r:List Str}{ps:List (Str×Str)}(hn:ns.Nodup)(hm:∀ p∈ps,p.1∈ns/\p.2∈ns)(F:r.Perm ns):okR (Ck ps) r↔∀ p∈ps,r.idxOf p.1<r.idxOf p.2:=by
 have a0:r.Nodup:=F.nodup_iff.mpr hn;constructor
 . rintro⟨h1,h2⟩ p Z;obtain⟨m1,m2⟩:=hm p Z;obtain⟨O,_,a3⟩:=Ur (F.mem_iff.mpr m1);obtain⟨U,_,b3⟩:=Ur (F.mem_iff.mpr m2);have hw:Ck ps p.1 p.2=true:=wayB_iff.mpr (.one Z);have a4:=(A03.mp O).2;have b4:=(A03.mp U).2;rcases Nat.lt_trichotomy (r.idxOf p.1) (r.idxOf p.2) with h|h|h
   . exact h
   . have e:p.1=p.2:=by rw[h,U] at O;exact(A10 O).symm
     rw[e] at hw;rw[h1 p.2 (F.mem_iff.mpr m2)] at hw
     cases hw
   have:=A49.mp h2 _ _ b3 a3 h;rw[a4,b4] at this;rw[this] at hw
   cases hw
 intro h
 have hw:∀ u v,Way ps u v->r.idxOf u<r.idxOf v:=λu v g=>by
  induction g with
  |one e=>exact h _ e
  |cons e _ ih=>exact A3Q (h _ e) ih
 refine⟨λu hu=>?_,A49.mpr λi j hi hj a2=>?_⟩
 . cases c:Ck ps u u with
   |false=>rfl
   |true=>exact absurd (hw u u (wayB_iff.mp c)) (A2E _)
 cases c:Ck ps r[j] r[i] with
 |false=>rfl
 |true=>
   have g:=hw _ _ (wayB_iff.mp c)
   have ix:∀ k (Y:k<r.length),r.idxOf r[k]=k:=λk Y=>by obtain⟨f1,_,f3⟩:=Ur (List.getElem_mem Y);exact(A1Z a0).mp (A03.mp f1).2
   rw[ix j hj,ix i hi] at g;omega
section
variable {prog:Program}{w:World}{A:Around}{E:Value->Shared->Prop}{I:Addr}{fp wr:List Addr}{n:Nat}{P:Nat->Value->Prop}{St:Nat->Heap->Prop}
theorem Rh (W:Walks prog w A I fp wr n P St):∀(m i:Nat) (s:Shared) (Q:List Value->Shared->Prop),i+m=n->St i s.heap ->
 (∀ h' tk vs,vs.length=m->(∀(j:Nat) v,vs[j]? = some v->P (i+j) v)->St n h'->(∀ b o,b∉wr->s.heap.get? b=some o->h'.get? b=some o)->Q vs {s with heap:=h',toks:=tk})->wpAny (model prog w) A (draw (.ref I) m) Q E s
 |0,i,s,Q,hi,st,h=>by
   show wpAny _ _ (pure []) Q E s;have e:i=n:=by omega
   subst e;exact A07 (h s.heap s.toks [] rfl (λj v F=>by cases F) st λ_ _ _ g=>g)
 |m+1,i,s,Q,hi,st,h=>by
   show wpAny _ _ (pyNext (.ref I) >>= _) Q E s;refine A02 (W.item i s _ _ (by omega) st λv h1 a3 F a0 Y=>?_);refine A02 (A19 (Rh W m (i+1) _ _ (by omega) a0 λh2 a2 vs hl U a1 Z=>A07 ?_));refine h h2 a2 (v :: vs) (by rw[A0X,hl]) (λj u hu=>?_) a1 λb o O g=>Z b o O (Y b o O g)
   cases j with
   |zero=>cases hu;exact F
   |succ j=>have:=U j u hu;rwa[show i+1+j=i+(j+1) by omega] at this
theorem Vp {s:Shared}{items:Array Value}{O:List (Bool×(Value->Sem Unit))}{Q:Unit->Shared->Prop}(Z:A.handled=none)(hl:s.heap.IsList a items)
 (hn:O.length=items.size) (a1:O.findIdx? (·.1)=none)
 (h:∀ h' tk,(∀ b o,s.heap.get? b=some o->h'.get? b=some o)->wpAny (model prog w) A (assignInOrder (O.map (·.2)) items.toList) Q E {s with heap:=h',toks:=tk}) :
 wpAny (model prog w) A (unpack (.ref a) O) Q E s:=by
 have a0:a<s.heap.objs.size:=let ⟨_,e,_⟩:=hl;A09 e;unfold unpack;rw[hn,a1];refine A02 (A19 ?_);unfold unpackItems notIterableAtAll;refine A02 (A02 (wpAny_specialOf hl.typeIs F.slot_list_iter.lookup (A07 ?_)));simp only[Option.isNone_some,Bool.false_eq_true,if_false];refine A02 (A19 (A2A hl ?_));have W:=Walks.list (prog:=prog) (w:=w) (A:=A) Z s.heap.objs.size a (A0N a0) items;refine A02 (A19 (Rh W items.size 0 _ _ (by omega) ⟨⟨_,A0F _ rfl,rfl,rfl⟩,hl.push _⟩ λh1 a5 vs hv Y a3 k1=>?_))
 have a2:vs=items.toList:=by
  apply List.ext_getElem?;intro j
  by_cases c:j<vs.length
  . obtain⟨v,e⟩:∃ v,vs[j]? = some v:=⟨_,A00 c⟩;have:=Y j v e;rw[Nat.zero_add] at this;rw[e,A3P,this]
  rw[A31 (by omega),A31 (by rw[A1O];omega)]
 subst a2;rw[if_neg (by simp)];refine A02 (A19 (W.done _ _ _ a3 λh2 a4 k2=>?_));simp only[Option.isSome_none,Bool.false_eq_true,if_false];refine A07 (h h2 a4 λb o e=>?_)
 have U:b∉[s.heap.objs.size]:=λz=>by
  have:b=s.heap.objs.size:=by simpa using z
  subst this;exact absurd (A09 e) (A2E _)
 exact k2 b o U (k1 b o U (A04 _ e))
end
def gLst (K:W.Frag)(n:Nat)(t:TGs):TG:=λv σ H Q=>∃ a xs,v = .ref a/\SqL K H a xs/\xs.length=n/\t xs σ H Q
def al1 {X:Cx}{K:W.Frag}{es:List Expr}{k:Nat}{t:TGs}{n:Nat}{pos:Pos}(U:X.calm=true)(h:PGs X es t)(O:X.K=K:=by ac_nf)
 (hn:(assignEach es X.env).length=n:=by ac_nf) (Z:(assignEach es X.env).findIdx? (·.1)=none:=by ac_nf):PG X (.Tuple es k pos) (gLst K n t):=by
 subst O;intro pins s σ H v u Q I r hw;obtain⟨a,xs,rfl,Y,hl,hw⟩:=hw
 cases r;obtain⟨a0,F,pl,_⟩:=I.list Y;rw[PyProof.Rows.assign_Tuple];refine wpAny_bind (wpAny_standAt (Vp (I.ok.hd U) pl.isList (by simp[hn,<- hl,F.length]) Z λh' tk hx=>?_));exact h pins _ σ H xs _ Q (I.kept (t':=tk) hx) (by simpa using F) hw
section
variable {α:Type}[DecidableEq α]
end
theorem Vj {β:Type}{f:β->Nat}{c:Nat}:∀ {l:List β},(∀ x∈l,f x=c)->(l.map f).sum=l.length*c
 | [],_=>by simp
 |x :: xs,h=>by rw[List.map_cons,List.sum_cons,h x (by simp),Vj (l:=xs) λy F=>h y (by simp[F]),List.length_cons,Nat.add_mul,Nat.one_mul,Nat.add_comm]
section
variable {prog:Program}{w:World}{A:Around}{E:Value->Shared->Prop}{s:Shared}
end
section
variable {κ:Type}[DecidableEq κ]
end
def a91 (s z a:Nat):List (List Nat):=(List.range 10).map λk=>P6 s (s+a)++Qa (7*k % 26)++P6 s (s+z-a-1)
def ai6 (s:Nat):List (List Nat):=(List.range 8).map (λk=>P6 s (s+1+k))++[Qa (s+9),Qa (s+11)]
def aD7:List Str:=["ahead","names","a","ab","name","row","ask","last","first","aheadahe"]
def nd41:∀ s<26,(ai6 s).Nodup:=by decide +kernel
def aF1:((List.range 10).map λk=>Qa (7*k % 26)).Nodup:=by decide +kernel
def ao2:Names aD7:=⟨by decide +kernel,by decide +kernel⟩
def nd40 (s z a:Nat):(a91 s z a).Nodup:=by refine D7 List.nodup_range λk U j O e=>?_;have F:Qa (7*k % 26)=Qa (7*j % 26):=List.append_cancel_left (List.append_cancel_right e);exact Gy (f:=λk=>Qa (7*k % 26)) aF1 k U j O F
def ae9 {s z a:Nat}(hs:s<26)(ha:a<z)(hz:z<=8):Names ((a91 s z a).map txt):=by
 refine⟨Ra (nd40 s z a),λy O=>?_⟩;obtain⟨l,hl,rfl⟩:=A0A.mp O;obtain⟨k,hk,rfl⟩:=A0A.mp hl;have hm:7*k % 26<26:=Nat.mod_lt _ ∅;have U:=Km (a:=s) (b:=s+a) (by omega) (by omega);have Y:=Mf (i:=7*k % 26) (by omega);have Z:=Km (a:=s) (b:=s+z-a-1) (by omega) (by omega);refine Mc (by simp only[List.length_append];omega) (by simp only[List.length_append];omega) λc F=>?_;rcases A0O.mp F with F|F
 . rcases A0O.mp F with F|F
   . exact L0 c F
   exact Lb c F
 exact L0 c F
def ad4 {s:Nat}(hs:s<26):Names ((ai6 s).map txt):=by
 refine⟨Ra (nd41 s hs),λz hz=>?_⟩;obtain⟨l,hl,rfl⟩:=A0A.mp hz;rcases A0O.mp hl with h|h
 . obtain⟨k,F,rfl⟩:=A0A.mp h;have F:=A28.mp F;have e:=Km (a:=s) (b:=s+1+k) (by omega) (by omega);exact Mc (by omega) (by omega) L0
 simp only[List.mem_cons,List.not_mem_nil,or_false] at h;rcases h with rfl|rfl
 . have e:=Mf (i:=s+9) (by omega);exact Mc (by omega) (by omega) Lb
 have e:=Mf (i:=s+11) (by omega);exact Mc (by omega) (by omega) Lb
def a34 {ns ls:List Str}{ps:List (Str×Str)}(h:Names ns)(hl:ns.length<=10)(p:ls.Perm ns)(u:Up ls ps)(F:ps.length<=60):Half ns ps:=⟨h,hl,F,ls,p,u⟩
def Lp {ns:List Str}{ys:List V}(h:ys.Perm (ns.map V.str)):∃ ls:List Str,ys=ls.map V.str/\ls.Perm ns:=by
 refine⟨ys.map λv=>match v with | .str z=>z | _=>"",?_,?_⟩
 . rw[A1H]
   have:∀ v∈ys,(V.str∘λv=>match v with | .str z=>z | _=>"") v=v:=λv F=>by obtain⟨z,_,rfl⟩:=A0A.mp (h.mem_iff.mp F);rfl
   rw[A2S this];simp
 have:=h.map λv=>match v with | .str z=>z | _=>("":Str)
 rw[A1H] at this
 have e:ns.map ((λv=>match v with | .str z=>z | _=>("":Str))∘V.str)=ns:=by rw[show((λv=>match v with | .str z=>z | _=>("":Str))∘V.str)=id from rfl,List.map_id]
 rw[e] at this;exact this
theorem Ut:∀ {ns:List Str} {as:List Addr} {i:Nat} {z:Str} {q:Addr},ns.Nodup->as.length=ns.length->ns[i]? = some z->Io (Eb ns as) (Sum.inr z:Key) (.ref q)=Eb ns (as.set i q)
 | [],_,i,_,_,_,_,h=>by simp at h
 |n :: ns,[],i,_,_,_,hl,_=>by simp at hl
 |n :: ns,b :: as,0,z,q,hn,hl,h=>by
   have hz:n=z:=by simpa using h
   subst hz
   have:(Sum.inr n:Key)∉(Eb ns as).map (·.1):=by have:=Kk (as:=b :: as) hn;exact(A12.mp this).1
   exact af2 (p:=(Sum.inr n,V.ref b)) this
 |n :: ns,b :: as,i+1,z,q,hn,hl,h=>by
   have hz:ns[i]? = some z:=by simpa using h
   have F:¬ n=z:=λe=>(A12.mp hn).1 (e ▸ A05 hz);have h1:¬ ((Sum.inr n:Key)=Sum.inr z):=λe=>F (Sum.inr.inj e);show Io ((Sum.inr n,V.ref b) :: Eb ns as) _ _=(Sum.inr n,V.ref b) :: Eb ns (as.set i q);rw[ag8 (p:=((Sum.inr n:Key),V.ref b)) h1,Ut (List.nodup_cons.mp hn).2 (by simpa using hl) hz]
structure Ovr (H:Hp)(r:Addr)(ns:List Str)(as:List Addr)(ov:Str->List Str):Prop where
 len:as.length=ns.length
 top:H r=some (.dK (Eb ns as))
 row:∀(i:Nat) (z:Str) (a:Addr),ns[i]? = some z->as[i]? = some a->H a=some (.lst ((ov z).map V.str))
def Ovr.same {ns:List Str}(h:Ovr H r ns as ov)(e:Same H H'):Ovr H' r ns as ov:=⟨h.len,e _ _ h.top,λi z a hz ha=>e _ _ (h.row i z a hz ha)⟩
def Ovr.at {ns:List Str}(h:Ovr H r ns as ov)(O:x∈ns):∃(i:Nat) (a:Addr),ns[i]? = some x/\as[i]? = some a:=by
 obtain⟨i,hi,e⟩:=A1I O;have F:i<as.length:=by rw[h.len];exact hi
 exact⟨i,as[i],by rw[A00 hi,e],A00 F⟩
def ovP (ov:Str->List Str)(x:Str)(fr:List Str):Str->List Str:=λz=>if z=x then ov z++fr else ov z
theorem Ovr.put {q:Addr}{ns:List Str}(hn:ns.Nodup)(h:Ovr H r ns as ov)(F:ns[i]? = some x){fr:List Str}(e:ExtBut r H H')(U:H q=some (.lst ((ov x++fr).map V.str)))(ht:H' r=some (.dK (Io (Eb ns as) (Sum.inr x:Key) (.ref q)))):Ovr H' r ns (as.set i q) (ovP ov x fr):=by
 have hi:i<ns.length:=(A03.mp F).1;refine⟨by rw[List.length_set,h.len],by rw[ht,Ut hn h.len F],λj z a hz ha=>?_⟩
 by_cases c:i=j
 . subst c;rw[F] at hz
   cases hz;rw[A2W (by rw[h.len];exact hi)] at ha
   cases ha;have:q≠r:=ne_of U h.top (by intro z;cases z);rw[e _ _ this U];unfold ovP;rw[A0K rfl]
 rw[A1X c] at ha
 have a0:z≠x:=λe=>by subst e;obtain⟨a1,Y⟩:=A03.mp F;obtain⟨b1,Z⟩:=A03.mp hz;exact c ((A1Z hn).mp (Y.trans Z.symm))
 have O:=h.row j z a hz ha;have:a≠r:=ne_of O h.top (by intro z;cases z);rw[e _ _ this O];unfold ovP;rw[A0J a0]
structure OvOk (ns:List Str)(ps:List (Str×Str))(ov:Str->List Str):Prop where
 nd:∀ z∈ns,(ov z).Nodup
 way:∀ z∈ns,∀ y∈ov z,Way ps z y
def Og (ns:List Str)(ov:Str->List Str):Nat:=(ns.map λz=>(ov z).length).sum
theorem al2 {ns:List Str}   (hn:ns.Nodup) (O:x∈ns) (fr:List Str):Og ns (ovP ov x fr)=Og ns ov+fr.length:=by
 unfold Og
 induction ns with
 |nil=>cases O
 |cons n ns ih=>
   obtain⟨h1,h2⟩:=A12.mp hn;rw[A0P,A0P,A26,A26]
   by_cases c:n=x
   . subst c;have F:(ovP ov n fr n).length=(ov n).length+fr.length:=by unfold ovP;rw[if_pos rfl,List.length_append]
     have U:(ns.map λz=>(ovP ov n fr z).length)=ns.map λz=>(ov z).length:=by apply A2S;intro z hz;unfold ovP;rw[A0J λ(e:z=n)=>h1 (e ▸ hz)]
     rw[F,U];omega
   have F:(ovP ov x fr n).length=(ov n).length:=by unfold ovP;rw[if_neg c]
   rw[F,ih h2 ((A0G.mp O).resolve_left λe=>c e.symm)];omega
def OvOk.len {ns:List Str}{ps:List (Str×Str)}(h:OvOk ns ps ov)(hm:∀ p∈ps,p.1∈ns/\p.2∈ns)(hz:z∈ns):(ov z).length<=ns.length:=
 Be (h.nd z hz) λy O=>by obtain⟨p,F,e⟩:=A0A.mp (h.way z hz y O).right;exact e ▸ (hm p F).2
def OvOk.tot {ns:List Str}{ps:List (Str×Str)}(h:OvOk ns ps ov)(hm:∀ p∈ps,p.1∈ns/\p.2∈ns):Og ns ov<=ns.length*ns.length:=by have:Og ns ov<=(ns.map λ_=>ns.length).sum:=aa7 λz hz=>h.len hm hz;have e:(ns.map λ_=>ns.length).sum=ns.length*ns.length:=Vj λ_ _=>rfl;omega
def Wi (ov:Str->List Str)(p:Str×Str):List Str:=(p.2 :: ov p.2).filter λz=>!decide (z∈ov p.1)
theorem OvOk.put {ns:List Str}{ps:List (Str×Str)}(h:OvOk ns ps ov)(irr:∀ x,¬ Way ps x x)(O:p∈ps)(hm:p.1∈ns/\p.2∈ns):OvOk ns ps (ovP ov p.1 (Wi ov p)):=by
 have hnd:(p.2 :: ov p.2).Nodup:=A12.mpr ⟨λhi=>irr _ (h.way _ hm.2 _ hi),h.nd _ hm.2⟩;refine⟨λz hz=>?_,λz hz y F=>?_⟩
 . unfold ovP
   by_cases c:z=p.1
   . rw[A0K c,A33];refine⟨h.nd z hz,hnd.filter _,λa ha b U e=>?_⟩;subst e;have:=(A0V.mp U).2;rw[c] at ha;rw[A0D ha] at this
     cases this
   rw[A0J c];exact h.nd z hz
 unfold ovP at F
 by_cases c:z=p.1
 . rw[A0K c] at F;subst c;rcases A0O.mp F with F|F
   . exact h.way _ hz y F
   rcases A0G.mp (A0V.mp F).1 with e|e
   . exact e ▸ .one O
   exact .cons O (h.way _ hm.2 _ e)
 rw[A0J c] at F;exact h.way z hz y F
def au4 {ps:List (Str×Str)}(h:∀ p∈ps,p.2∈ov p.1/\∀ y∈ov p.2,y∈ov p.1)(g:Way ps x y):y∈ov x:=by
 induction g with
 |one e=>exact(h _ e).1
 |cons e _ ih=>exact(h _ e).2 _ ih
def a56 (h:Wi ov p=[]):p.2∈ov p.1/\∀ y∈ov p.2,y∈ov p.1:=by
 have O:∀ y∈p.2 :: ov p.2,y∈ov p.1:=λy F=>by
  by_cases c:y∈ov p.1
  . exact c
  have:y∈Wi ov p:=A0V.mpr ⟨F,by rw[A0H c];rfl⟩;rw[h] at this
  cases this
 exact⟨O _ (by simp),λy F=>O y (by simp[F])⟩
def ae8 (ov:Str->List Str)(x:Str):ovP ov x []=ov:=by
 funext z;unfold ovP
 split
 . rw[A2B]
 rfl
def Ovr.tab {K:W.Frag}{ns:List Str}{ps:List (Str×Str)}(h:Ovr H r ns as ov)(o:OvOk ns ps ov)(c:∀ p∈ps,p.2∈ov p.1/\∀ y∈ov p.2,y∈ov p.1):TabL K H r ns as (Way ps):=
 ⟨h.len,h.top,λi z a hz ha=>⟨ov z,h.row i z a hz ha,o.nd z (A05 hz),λy=>⟨o.way z (A05 hz) y,au4 c⟩⟩⟩
theorem Yx {α:Type}[DecidableEq α]{b:α->α->Bool}(irr:∀ x,b x x=false)(tr:∀ x y z,b x y=true->b y z=true->b x z=true):∀(n:Nat) (L:List α),L.length=n->L.Nodup->0<cnt b L
 |0,L,hl,_=>by have:=A1D.mp hl;subst this;exact Nat.zero_lt_one
 |n+1,L,hl,hn=>by
   have F:L≠[]:=by intro e;rw[e] at hl;cases hl
   rw[aw3 hn F]
   cases hf:frF b L with
   |nil=>exact absurd hf (az7 irr tr F)
   |cons x t=>
     have O:x∈frF b L:=by rw[hf];simp
     have:=Hg hn (mem_frF.mp O).1;have:=Yx irr tr n (Di L x) (by omega) (Jm hn x);rw[A0P,A26];omega
def Zt {l:Addr}(h:H l=some (.lst xs))(k:∀ H',ExtBut l H H'->H' l=some (.lst xs.reverse)->Q .non H'):U6 (.ref l) [] H Q:=⟨l,xs,rfl,rfl,h,k _ ExtBut.upd Aj⟩
def Half.ok4 {ns:List Str}{ps:List (Str×Str)}(h:Half ns ps):∀ z∈ns,PyData.strOk z=true:=λz hz=>(Vt (h.names.2 z hz)).1
section
variable {α:Type}[DecidableEq α]
end
section
variable {X:Cx}
end
def Way.sub {ps qs:List (Str×Str)}(h:∀ p∈qs,Way ps p.1 p.2){a b:Str}(g:Way qs a b):Way ps a b:=by
 induction g with
 |one e=>exact h _ e
 |cons e _ ih=>exact(h _ e).trans ih
section
variable {X:Cx}{K:W.Frag}
end
section
variable {K:W.Frag}{σ:St}
end
end L2
namespace L2
open PySem PySem.Spec PyProof.Rows
open PySem PySem.W PyProof.Rows
variable {p:Array Nat}{i j:Nat}{Q:Nat×Array Nat->Prop}{q:Str×Str}
def gT (n:Nat)(lt:Nat->Nat->Bool){α:Type}:KasT α->(α->Prop)->Prop
 |.ret a,Q=>Q a
 |.ask i j k,Q=>i<n/\j<n/\gT n lt (k (lt i j)) Q
theorem Le {n:Nat}{lt:Nat->Nat->Bool}{α β:Type}{f:α->KasT β}{Q:β->Prop}:∀ {t:KasT α},gT n lt t (λa=>gT n lt (f a) Q)->gT n lt (t.bind f) Q
 |.ret _,h=>h
 |.ask i j k,h=>⟨h.1,h.2.1,Le (t:=k (lt i j)) h.2.2⟩
theorem au9 {n:Nat}{lt:Nat->Nat->Bool}{α:Type}{F:Nat->Nat->(Bool->Shared->Prop)->Shared->Prop}{s:Shared}(U:∀ i j C,i<n->j<n->C (lt i j) s->F i j C s){Q:α->Prop}{R:α->Shared->Prop}(O:∀ a,Q a->R a s):∀ {t:KasT α},gT n lt t Q->t.kasWp F R s
 |.ret _,h=>O _ h
 |.ask i j k,h=>U i j _ h.1 h.2.1 (au9 U O (t:=k (lt i j)) h.2.2)
section
variable {n:Nat}{r:Nat->Nat}
abbrev ltR (r:Nat->Nat):Nat->Nat->Bool:=λi j=>decide (r i<r j)
def rkA (r:Nat->Nat)(p:Array Nat)(i:Nat):Nat:=r (p.getD i 0)
def PmA (n:Nat)(p:Array Nat):Prop:=p.Perm (List.range n).toArray
def UpA (r:Nat->Nat)(p:Array Nat)(k:Nat):Prop:=∀ i j,i<=j->j<k->rkA r p i<=rkA r p j
def DnA (r:Nat->Nat)(p:Array Nat)(k:Nat):Prop:=∀ i j,i<=j->j<k->rkA r p j<=rkA r p i
theorem PmA.size (h:PmA n p):p.size=n:=by have:=Array.Perm.size_eq h;simpa using this
def PmA.lt (h:PmA n p)(hi:i<n):p.getD i 0<n:=by
 have hs:=h.size;have F:i<p.size:=by omega
 have e:p.getD i 0=p[i]:=by simp[Array.getD,F]
 rw[e];have hm:p[i]∈p.toList:=by simp
 have:=(A41.mp h).mem_iff.mp hm;simpa using this
def Hv {q:Array Nat}(h:p[i]? = q[j]?):p.getD i 0=q.getD j 0:=by rw[Array.getD_eq_getD_getElem?,Array.getD_eq_getD_getElem?,h]
def Yy (F:j<=p.size)(k:Nat):rkA r (mirror p i j ((j-i) / 2)) k=if i<=k/\k<j then rkA r p (i+j-1-k) else rkA r p k:=by
 have e:=getElem?_mirror_all (xs:=p) (i:=i) F k;unfold rkA
 split
 . rename_i c;rw[A0K c] at e;rw[Hv e]
 rename_i c;rw[A0J c] at e;rw[Hv e]
def Hy (O:j<=p.size)(F:∀ k,i<=k->k<j->rkA r p k=rkA r p (j-1))(k:Nat):rkA r (mirror p i j ((j-i) / 2)) k=rkA r p k:=by
 rw[Yy O]
 split
 . rename_i c;rw[F _ (by omega) (by omega),F k c.1 c.2]
 rfl
def a85 {a d:Nat}(hs:a<p.size)(hd:d<=a)(k:Nat):rkA r (bubble p a d) k=if k=a-d then rkA r p a else if a-d<k/\k<=a then rkA r p (k-1) else rkA r p k:=by
 have e:=getElem?_bubble (xs:=p) hs d hd k;unfold rkA
 by_cases h1:k=a-d
 . rw[A0K h1] at e ⊢;exact congrArg r (Hv e)
 rw[A0J h1] at e ⊢
 by_cases h2:a-d<k/\k<=a
 . rw[A0K h2] at e ⊢;exact congrArg r (Hv e)
 rw [A0J h2] at e ⊢;exact congrArg r (Hv e)
theorem Wz {p:Array Nat}(O:PmA n p){Q:Nat->Prop}:∀(f m:Nat),1<=m->m+f<=n->UpA r p m->(∀ k,m<=k->k<=m+f->UpA r p k->(k=m+f\/rkA r p k<rkA r p (k-1))->Q k)->gT n (ltR r) (kas_asc p f m) Q
 |0,m,_,_,hs,h=>h m (A0B _) (A0B _) hs (.inl rfl)
 |f+1,m,h1,hm,hs,h=>by
   refine⟨O.lt (by omega),O.lt (by omega),?_⟩
   by_cases c:r (p.getD m 0)<r (p.getD (m-1) 0)
   . rw[show ltR r (p.getD m 0) (p.getD (m-1) 0)=true from A0D c];dsimp only;rw[A0K rfl];exact h m (A0B _) (by omega) hs (.inr c)
   rw[show ltR r (p.getD m 0) (p.getD (m-1) 0)=false from A0H c];dsimp only;rw[A0J A0C];refine Wz O f (m+1) (by omega) (by omega) (λi j a5 hj=>?_) λk U Y Z F=>h k (by omega) (by omega) Z (by rcases F with F|F;exact .inl (by omega);exact .inr F)
   by_cases a7:j<m
   . exact hs i j a5 a7
   have a6:j=m:=by omega
   subst a6
   by_cases a0:i=j
   . rw[a0];exact A0B _
   have U:=hs i (j-1) (by omega) (by omega);have Y:rkA r p (j-1)<=rkA r p j:=by unfold rkA;omega
   omega
def Zj (F:PmA n p){m:Nat}(h1:1<=m)(hm:m<=n)(hs:DnA r p m)(h:∀ k q,PmA n q->1<=k->k<=n->UpA r q k->Q (k,q)):gT n (ltR r) (kas_tail3 m n p) Q:=by
 have hsz:m<=p.size:=by rw[F.size];exact hm
 have O:PmA n (kas_rev p 0 m):=(mirror_perm _ _ _ _).trans F;refine Le (Wz O (n-m) m h1 (by omega) (λi j a0 hj=>?_) λk Y Z U _=>h k _ O (by omega) (by omega) U);unfold kas_rev;rw[Yy hsz,Yy hsz,A0K (by omega),A0K (by omega)];exact hs _ _ (by omega) (by omega)
theorem Q8 {Q:Array Nat×Nat×Nat->Prop}:∀(f:Nat) (p:Array Nat) (m q:Nat),PmA n p->1<=m->m+f=n->DnA r p m->q+1<=m->(∀ i,m-(q+1)<=i->i<m->rkA r p i=rkA r p (m-1)) ->
 (∀ p' F q',PmA n p'->1<=F->F<=n->DnA r p' F->q'+1<=F->(∀ i,F-(q'+1)<=i->i<F->rkA r p' i=rkA r p' (F-1))->Q (p',F,q'))->gT n (ltR r) (kas_desc f p m q) Q
 |0,p,m,q,hp,h1,hm,hs,hq,he,h=>h p m q hp h1 (by omega) hs hq he
 |f+1,p,m,q,hp,h1,hm,hs,hq,he,h=>by
   have hsz:m<=p.size:=by rw[hp.size];omega
   refine⟨hp.lt (by omega),hp.lt (by omega),?_⟩
   by_cases c:r (p.getD m 0)<r (p.getD (m-1) 0)
   . rw[show ltR r (p.getD m 0) (p.getD (m-1) 0)=true from A0D c];dsimp only;rw[A0K rfl];have hc:rkA r p m<rkA r p (m-1):=c
     have more:∀ p':Array Nat,(∀ k,rkA r p' k=rkA r p k)->DnA r p' (m+1):=λp' hk i j U hj=>by
      rw[hk,hk]
      by_cases Z:j<m
      . exact hs i j U Z
      have Y:j=m:=by omega
      subst Y
      by_cases O:i=j
      . rw[O];exact A0B _
      have:=hs i (j-1) (by omega) (by omega);omega
     by_cases hz:q>0
     . rw[A0K hz];refine Q8 f _ (m+1) 0 ((mirror_perm _ _ _ _).trans hp) (by omega) (by omega) (more _ (Hy hsz he)) (by omega) (λi a1 a2=>by congr 1;omega) h
     rw[A0J hz];exact Q8 f p (m+1) 0 hp (by omega) (by omega) (more _ λ_=>rfl) (by omega) (λi a1 a2=>by congr 1;omega) h
   rw[show ltR r (p.getD m 0) (p.getD (m-1) 0)=false from A0H c];dsimp only;rw[A0J A0C];refine⟨hp.lt (by omega),hp.lt (by omega),?_⟩
   by_cases c2:r (p.getD (m-1) 0)<r (p.getD m 0)
   . rw[show ltR r (p.getD (m-1) 0) (p.getD m 0)=true from A0D c2];dsimp only;rw[A0K rfl];exact h p m q hp h1 (by omega) hs hq he
   rw[show ltR r (p.getD (m-1) 0) (p.getD m 0)=false from A0H c2];dsimp only;rw[A0J A0C];have hx:rkA r p m=rkA r p (m-1):=by unfold rkA;omega
   refine Q8 f p (m+1) (q+1) hp (by omega) (by omega) (λi j U hj=>?_) (by omega) (λi a1 a2=>?_) h
   . by_cases Z:j<m
     . exact hs i j U Z
     have Y:j=m:=by omega
     subst Y
     by_cases O:i=j
     . rw[O];exact A0B _
     have:=hs i (j-1) (by omega) (by omega);omega
   rw[show m+1-1=m by omega]
   by_cases O:i=m
   . rw[O]
   rw[hx];exact he i (by omega) (by omega)
def Xv (hp:PmA n p){m:Nat}(hm:m+1<=n)(hs:DnA r p (m+1))(h:∀ k q,PmA n q->1<=k->k<=n->UpA r q k->Q (k,q)):gT n (ltR r) (kas_descPart m n p) Q:=by
 refine Le (Q8 _ p (m+1) 0 hp (by omega) (by omega) hs (by omega) (λi a1 a2=>by congr 1;omega) λp' m' q' F U O Y b5 Z=>?_);have hsz:m'<=p'.size:=by rw[F.size];exact O
 dsimp only
 by_cases hz:q'>0
 . rw[A0K hz];refine Zj ((mirror_perm _ _ _ _).trans F) U O (λi j a0 hj=>?_) h;rw[Hy hsz Z,Hy hsz Z];exact Y i j a0 hj
 rw[A0J hz];exact Zj F U O Y h
theorem a70 (F:PmA n p)(h1:1<=n)(h:∀ k q,PmA n q->1<=k->k<=n->UpA r q k->Q (k,q)):gT n (ltR r) (kas_count n p) Q:=by
 refine Le (Wz F (n-1) 1 (A0B _) (by omega) (λi j a0 hj=>by have:i=j:=(by omega);subst this;exact A0B _) λm Z a2 U a4=>?_)
 by_cases hm:m=n
 . rw[if_pos (by simpa using hm)];exact h m p F Z (by omega) U
 rw[if_neg (by simpa using hm)];have a7:rkA r p m<rkA r p (m-1):=a4.resolve_left (by omega)
 by_cases hg:m>1
 . rw[A0K hg];refine⟨F.lt (by omega),F.lt (by omega),?_⟩
   by_cases c:r (p.getD 0 0)<r (p.getD (m-1) 0)
   . rw[show ltR r (p.getD 0 0) (p.getD (m-1) 0)=true from A0D c];dsimp only;rw[A0K rfl];exact h m p F Z (by omega) U
   rw[show ltR r (p.getD 0 0) (p.getD (m-1) 0)=false from A0H c];dsimp only;rw[A0J A0C];have hsz:m<=p.size:=by rw[F.size];omega
   have hc:¬ rkA r p 0<rkA r p (m-1):=c
   have O:∀ k,0<=k->k<m->rkA r p k=rkA r p (m-1):=λk _ hk=>by have b1:=U 0 k (by omega) hk;have b2:=U k (m-1) (by omega) (by omega);omega
   refine Xv ((mirror_perm _ _ _ _).trans F) (by omega) (λi j a0 hj=>?_) h;rw[Hy hsz O,Hy hsz O]
   by_cases a6:j<m
   . rw[O i (by omega) (by omega),O j (by omega) a6];exact A0B _
   have a5:j=m:=by omega
   subst a5
   by_cases Y:i=j
   . rw[Y];exact A0B _
   rw[O i (by omega) (by omega)];omega
 rw[A0J hg];have a8:m=1:=by omega
 subst a8;refine Xv F (by omega) (λi j a0 hj=>?_) h
 by_cases Y:i=j
 . rw[Y];exact A0B _
 have e1:i=0:=by omega
 have e2:j=1:=by omega
 rw[e1,e2];exact A27 a7
theorem Oz {p:Array Nat}(U:PmA n p){k:Nat}(Y:k<n){Q:Nat->Prop}:∀(f a b:Nat),a<=b->b<=k->b-a<=f->(∀ i,i<a->rkA r p i<=rkA r p k)->(∀ i,b<=i->i<k->rkA r p k<rkA r p i)->UpA r p k ->
 (∀ a,a<=k->(∀ i,i<a->rkA r p i<=rkA r p k)->(∀ i,a<=i->i<k->rkA r p k<rkA r p i)->Q a)->gT n (ltR r) (kas_place p k f a b) Q
 |0,a,b,hab,hbk,hf,h1,h2,hs,h=>h a (by omega) h1 λi O F=>h2 i (by omega) F
 |f+1,a,b,hab,hbk,hf,h1,h2,hs,h=>by
   unfold kas_place
   by_cases c:a>=b
   . rw[A0K c];exact h a (by omega) h1 λi O F=>h2 i (by omega) F
   rw[A0J c];refine⟨U.lt Y,U.lt (by omega),?_⟩
   by_cases d:r (p.getD k 0)<r (p.getD ((a+b) / 2) 0)
   . rw[show ltR r (p.getD k 0) (p.getD ((a+b) / 2) 0)=true from A0D d];dsimp only;rw[A0K rfl];refine Oz U Y f a ((a+b) / 2) (by omega) (by omega) (by omega) h1 (λi O F=>?_) hs h;have hd:rkA r p k<rkA r p ((a+b) / 2):=d;have:=hs ((a+b) / 2) i O F;omega
   rw[show ltR r (p.getD k 0) (p.getD ((a+b) / 2) 0)=false from A0H d];dsimp only;rw[A0J A0C];refine Oz U Y f ((a+b) / 2+1) b (by omega) hbk (by omega) (λi O=>?_) h2 hs h;have hd:¬ rkA r p k<rkA r p ((a+b) / 2):=d;have:=hs i ((a+b) / 2) (by omega) (by omega);omega
theorem aa3 {Q:Array Nat->Prop}:∀(f:Nat) (p:Array Nat) (k:Nat),PmA n p->k+f=n->UpA r p k->(∀ q,PmA n q->UpA r q n->Q q)->gT n (ltR r) (kas_bin f p k) Q
 |0,p,k,hp,hk,hs,h=>h p hp (by rw[<- hk];exact hs)
 |f+1,p,k,hp,hk,hs,h=>by
   refine Le (Oz hp (by omega) k 0 k (by omega) (A0B _) (by omega) (λi c=>by omega) (λi Z c2=>by omega) hs λa ha h1 h2=>?_);have O:k<p.size:=by rw[hp.size];omega
   refine aa3 f _ (k+1) ((bubble_perm _ _ _).trans hp) (by omega) (λi j Y hj=>?_) h;have e:k-(k-a)=a:=by omega
   rw[a85 O (by omega),a85 O (by omega),e]
   by_cases i1:i=a
   . rw[A0K i1]
     by_cases F:j=a
     . rw[A0K F];exact A0B _
     rw[A0J F,A0K (by omega)];exact A27 (h2 (j-1) (by omega) (by omega))
   rw[A0J i1]
   by_cases i2:a<i/\i<=k
   . rw[A0K i2,A0J (by omega),A0K (by omega)];exact hs (i-1) (j-1) (by omega) (by omega)
   rw[A0J i2]
   by_cases F:j=a
   . rw[A0K F];exact h1 i (by omega)
   rw[A0J F]
   by_cases U:a<j/\j<=k
   . rw[A0K U];exact hs i (j-1) (by omega) (by omega)
   rw[A0J U];exact hs i j Y (by omega)
def ao0 (h1:1<=n){Q:Array Nat->Prop}(h:∀ q,PmA n q->UpA r q n->Q q):gT n (ltR r) (kas_sort n) Q:=by
 refine Le (a70 (r:=r) (Array.Perm.refl _) h1 λk q O U Y F=>?_);dsimp only
 by_cases c:k<n
 . rw[A0K c,show max k 1=k by omega];exact aa3 (n-k) q k O (by omega) F h
 rw[A0J c];have e:k=n:=by omega
 rw[e] at F;exact h q O F
end
def pLt (p q:Str×Str):Bool:=if p.1=q.1 then decide (p.2.cps.toList<q.2.cps.toList) else decide (p.1.cps.toList<q.1.cps.toList)
def ac9 {a b:Str}(h:a.cps.toList=b.cps.toList):a=b:=Str.ext' (Array.toList_inj.mp h)
def ag0 (p:Str×Str):pLt p p=false:=by unfold pLt;rw[A0K rfl];exact A0H (List.lt_irrefl _)
def aa6 {p t:Str×Str}(h1:pLt p q=true)(h2:pLt q t=true):pLt p t=true:=by
 unfold pLt at *
 by_cases O:p.1=q.1
 . rw[A0K O] at h1
   by_cases F:q.1=t.1
   . rw[A0K F] at h2;rw[A0K (O.trans F)];exact A0D (List.lt_trans (A13 h1) (A13 h2))
   rw[A0J F] at h2;rw[A0J (by rw[O];exact F),O];exact h2
 rw[A0J O] at h1
 by_cases F:q.1=t.1
 . rw[A0J (by rw[<- F];exact O),<- F];exact h1
 rw[A0J F] at h2;have U:=List.lt_trans (A13 h1) (A13 h2)
 have Y:¬ p.1=t.1:=λe=>by rw[e] at U;exact List.lt_irrefl _ U
 rw[A0J Y];exact A0D U
def Yn {p:Str×Str}(h1:pLt p q=false)(h2:pLt q p=false):p=q:=by
 unfold pLt at *
 by_cases c:p.1=q.1
 . rw[A0K c] at h1;rw[A0K c.symm] at h2;have e:=ac9 (List.le_antisymm (A3A.mp (A2H h2)) (A3A.mp (A2H h1)));exact Prod.ext c e
 rw[A0J c] at h1;rw[A0J λe=>c e.symm] at h2;exact absurd (ac9 (List.le_antisymm (A3A.mp (A2H h2)) (A3A.mp (A2H h1)))) c
def rkP (ps:List (Str×Str))(i:Nat):Nat:=((List.range ps.length).filter λk=>pLt (ps.getD k ("","")) (ps.getD i ("",""))).length
theorem a90 (ps:List (Str×Str))(hi:i<ps.length):(rkP ps i<rkP ps j)↔pLt (ps.getD i ("","")) (ps.getD j ("",""))=true:=by
 constructor
 . intro h
   cases c:pLt (ps.getD i ("","")) (ps.getD j ("","")) with
   |true=>rfl
   |false=>
     exfalso
     have:rkP ps j<=rkP ps i:=by
      unfold rkP;rw[<- List.countP_eq_length_filter,<- List.countP_eq_length_filter];apply List.countP_mono_left;intro k _ F
      cases c2:pLt (ps.getD j ("","")) (ps.getD i ("","")) with
      |true=>exact aa6 F c2
      |false=>rw[Yn c c2];exact F
     omega
 intro h;refine Jx (λk _ F=>aa6 F h) ⟨i,A28.mpr hi,h,ag0 _⟩
def J9 (ps:List (Str×Str)):Prop:=ps.Pairwise λx y=>pLt y x=false
def T0 {a b:List (Str×Str)}(O:a.Perm b)(ha:J9 a)(F:J9 b):a=b:=
 List.Perm.eq_of_pairwise (λx y _ _ h1 h2=>Yn h2 h1) ha F O
section
variable {prog:Program}{w:World}{A:Around}{E:Value->Shared->Prop}{z:Shared}
def PrT (h:Heap)(v:Value)(p:Str×Str):Prop:=∃ a o n t u,v = .ref a/\h.get? a=some o/\o.cls = .type "tuple" /\ o.data = .seq #[.str p.1 t,.str p.2 u] n
def PrT.keep {h h':Heap}{v:Value}{p:Str×Str}(x:PrT h v p)(k:∀ b o,h.get? b=some o->o.cls = .type "tuple" -> h'.get? b=some o):PrT h' v p:=by obtain⟨a,o,n,t,u,e,h1,h2,F⟩:=x;exact⟨a,o,n,t,u,e,k a o h1 h2,h2,F⟩
theorem aE3 {v u:Value}{p:Str×Str}{Q:Bool->Shared->Prop}(Z:PrT z.heap v p)(hu:PrT z.heap u q)(h:Q (pLt p q) z):wpAny (model prog w) A (keyLt' (tuples' true) v u) Q E z:=by
 obtain⟨a,o,n,t1,t2,rfl,U,hc,hd⟩:=Z;obtain⟨a',o',n',a0,a1,rfl,Y,a2,O⟩:=hu;refine kat_lt U hd Y O ?_;show KatLex prog w A true _ Q [(.str p.1 t1,.str q.1 a0),(.str p.2 t2,.str q.2 a1)] 0 z;unfold pLt at h;refine kat_cons (wpAny_eqBool_str (kat_go (λe=>kat_yes (kat_cons (wpAny_eqBool_str (kat_go (λF=>kat_yes (kat_nil ?_)) λF=>kat_no ?_)))) λe=>kat_no ?_))
 . rw[A0K (A13 e),A13 F,A0H (List.lt_irrefl _)] at h;exact h
 . rw[A0K (A13 e)] at h;exact kat_one _ _ (PySem.P.lt_str h)
 rw[A0J (A2H e)] at h;exact oneLt_str h
theorem Ir {α β:Type}{F:α->β->Prop}:∀ {xs:List α} {ys:List β},Paired F xs ys->∀ {i:Nat} {dx:α} {dy:β},i<xs.length->F (xs.getD i dx) (ys.getD i dy)
 |_,_,.nil,_,_,_,h=>by cases h
 |_,_,.cons r t,0,_,_,_=>r
 |_,_,.cons r t,i+1,_,_,h=>Ir t (i:=i) (by simpa using h)
theorem T9 {h:Heap}:∀ {O:List Value} {ps:List (Str×Str)},Paired (PrT h) O ps->∃ fs,KatTups h O fs/\fs.length=O.length/\∀ v∈fs,∃ x t,v = .str x t
 |_,_,.nil=>⟨[],.nil,rfl,λ_ h=>by cases h⟩
 |_,_,.cons r t=>by
   obtain⟨a,o,n,t1,t2,rfl,Z,Y,hd⟩:=r;obtain⟨fs,h1,h2,U⟩:=T9 t;refine⟨_ :: fs,.cons Z Y hd rfl h1,by simp[h2],λv F=>?_⟩;rcases A0G.mp F with rfl|F
   . exact⟨_,_,rfl⟩
   exact U v F
def aB1 (F:List Value)(ps:List (Str×Str))(out:List Value):Prop:=∃ q:Array Nat,PmA F.length q/\UpA (rkP ps) q F.length/\out=q.toList.map λi=>F.getD i Value.none
theorem a20 {a:Addr}{F:List Value}{ps:List (Str×Str)}{n:Nat}{P:PySem.Fin->Shared->Prop}(Z:z.heap.get? a=some (seqObj "list" F.toArray n))(hp:Paired (PrT z.heap) F ps)(a9:F.length<64)
 (h:∀ out:List Value,aB1 F ps out->out.length=F.length->P (.done (.ret .none)) {z with heap:=sortedHeap z.heap a F out.toArray}):wpAny (model prog w) A (Builtin.«list.sort» ⟨[.ref a],[]⟩) P E z:=by
 rw[list_sort_plain];have aF:a<z.heap.objs.size:=A09 Z;refine A02 (listItems_at Z rfl ?_);refine A02 (listUpdate_at Z rfl ?_ (by rw[A0E,A0T];omega) (A1W _));obtain⟨Y,a5⟩:∃ Y,(z.heap.update a (Obj.mapSeq λ_=>#[])).get? a=some (seqObj "list" #[] Y):=⟨_,get?_update_seq Z (λ_=>#[])⟩;refine A02 (seqEpoch_at a5 rfl ?_);refine A02 (wpAny_newTuple ?_ (by show F.length<=_;rw[A0T];omega));refine A02 (wpAny_newList ?_ (A1W _));refine A19 ?_;have a0:(((z.heap.update a (Obj.mapSeq λ_=>#[])).push (seqObj "tuple" F.toArray 0)).push (seqObj "list" #[] 0)).get? a=some (seqObj "list" #[] Y):=A04 _ (A04 _ a5);show wpAny (model prog w) A _ P E {z with heap:=((z.heap.update a (Obj.mapSeq λ_=>#[])).push (seqObj "tuple" F.toArray 0)).push (seqObj "list" #[] 0)}
 dsimp only
 have kp:∀ b o,z.heap.get? b=some o->o.cls = .type "tuple" -> (((z.heap.update a (Obj.mapSeq λ_=>#[])).push (seqObj "tuple" F.toArray 0)).push (seqObj "list" #[] 0)).get? b=some o:=λb o e c=>by
  have aA:b≠a:=λq=>by
   rw[q,Z] at e
   cases e;exact absurd c (by simp[seqObj])
  exact A04 _ (A04 _ ((A53 _ _ _ _ aA).trans e))
 have a4:∀ out:List Value,aB1 F ps out->out.length=F.length->P (.done (.ret .none)) {z with heap:=(((z.heap.update a (Obj.mapSeq λ_=>#[])).push (seqObj "tuple" F.toArray 0)).push (seqObj "list" #[] 0)).update a (Obj.mapSeq λ_=>out.toArray)}:=h
 by_cases h2:F.toArray.size<2
 . rw[A0K h2,A0K h2];refine A02 (A07 ?_);rw[StateT.run_pure];refine A02 (A07 ?_);dsimp only;refine A02 (seqEpoch_at a0 rfl ?_)
   have ez:(arrOf (SortSt.mk' general' (F.toArray.zip F.toArray) #[] 7 none)).map (·.2)=F.toArray:=by show(F.toArray.zip F.toArray).map (·.2)=F.toArray;apply Array.toList_inj.mp;rw[Array.toList_map,Array.toList_zip];exact List.map_snd_zip (A0B _)
   have a3:(F.toArray.zip F.toArray).map (·.2)=F.toArray:=ez;refine A02 (listUpdate_at a0 rfl ?_ (A1W _) (by rw[a3,A0E,A0T];omega));simp only[bne_self_eq_false,Bool.false_eq_true,if_false];refine A07 ?_;rw[a3];have a6:F.length<2:=by simpa using h2
   refine a4 F ⟨(List.range F.length).toArray,Array.Perm.refl _,λi j aG hj=>?_,?_⟩ rfl
   . have:i=j:=by omega
     rw[this];exact A0B _
   apply List.ext_getElem (by simp);intro i h1 h2;simp[h1]
 rw[A0J h2,A0J h2]
 have a6:2<=F.length:=by
  have:¬ F.length<2:=by simpa using h2
  omega
 obtain⟨fs,ft,fl,aE⟩:=T9 hp;have a2:Paired (PrT (((z.heap.update a (Obj.mapSeq λ_=>#[])).push (seqObj "tuple" F.toArray 0)).push (seqObj "list" #[] 0))) F ps:=Paired.mapP hp λv p x=>x.keep kp;obtain⟨aD,a8,aC,a7⟩:=T9 a2;have aH:F.length=ps.length:=hp.length;refine A02 (kat_kind (T:=.type "str") a8 (by omega) (λv hv=>?_) ∅ ?_)
 . obtain⟨x,t,rfl⟩:=a7 v hv;exact Looks.of_pure rfl
 rw[show(Value.type "str" != Value.type "tuple")=true by decide]
 refine A02 (A22 (kat_run (κ:=tuples' true) (ks:=F) (vs:=F) (Q:=λa1 s'=>s'={z with heap:=((z.heap.update a (Obj.mapSeq λ_=>#[])).push (seqObj "tuple" F.toArray 0)).push (seqObj "list" #[] 0)}/\∃ p:Array Nat,PmA F.length p/\UpA (rkP ps) p F.length/\arrOf a1=p.map (kas_item (F.toArray.zip F.toArray))/\failedOf a1=none)
  (G:=λp s'=>s'={z with heap:=((z.heap.update a (Obj.mapSeq λ_=>#[])).push (seqObj "tuple" F.toArray 0)).push (seqObj "list" #[] 0)}/\PmA F.length p/\UpA (rkP ps) p F.length) rfl a6 a9 (λp a1 s' _ O b3 U=>⟨U.1,p,U.2.1,U.2.2,O,b3⟩) ?_) ?_ λ_ _ e=>e)
 . refine au9 (n:=F.length) (lt:=ltR (rkP ps)) (Q:=λp=>PmA F.length p/\UpA (rkP ps) p F.length) (λi j C hi hj hC=>?_) (λp hq=>⟨rfl,hq.1,hq.2⟩) (ao0 (by omega) λq b1 O=>⟨b1,O⟩);have Y:=Ir a2 (i:=i) (dx:=Value.none) (dy:=("","")) hi;have e2:=Ir a2 (i:=j) (dx:=Value.none) (dy:=("","")) hj
   have hb:ltR (rkP ps) i j=pLt (ps.getD i ("","")) (ps.getD j ("","")):=by rw[A15,A47];exact a90 ps (by omega)
   rw[hb] at hC;exact aE3 Y e2 hC
 rintro⟨⟨⟩,a1⟩ s' ⟨rfl,p,b1,O,b3,U⟩;dsimp only;have aB:=kat_snds (ks:=F) (vs:=F) rfl b3;have hsz:(p.toList.map λi=>F.getD i Value.none).length=F.length:=by rw[A01,A1O,b1.size]
 rw[aB];refine A02 (seqEpoch_at a0 rfl ?_);refine A02 (listUpdate_at a0 rfl ?_ (A1W _) (by rw[A0E,hsz,A0T];omega));rw[U];simp only[bne_self_eq_false,Bool.false_eq_true,if_false];exact A07 (a4 _ ⟨p,b1,O,rfl⟩ hsz)
theorem Od {t:Addr}{F:List Value}{ps:List (Str×Str)}{T:String}{n:Nat}{o:Obj}{Q:Value->Shared->Prop}(hT:T = "list" \/ T = "tuple")(ho:z.heap.get? t=some o)(hc:o.cls = .type T)(hd:o.data = .seq F.toArray n)(hP:Paired (PrT z.heap) F ps)(a0:F.length<64)
 (h:∀(h1 h':Heap) (out:List Value) (e:Nat),(∀ b O,z.heap.get? b=some O->h1.get? b=some O)->(∀ b O,h1.get? b=some O->h'.get? b=some O)->h'.get? h1.objs.size=some (seqObj "list" out.toArray e)->aB1 F ps out->out.length=F.length->Q (.ref h1.objs.size) {z with heap:=h'}) :
 wpAny (model prog w) A (call (.builtin "sorted") [.ref t]) Q E z:=by
 refine(Calls.call_function_entry kind_sorted plain_sorted entry_sorted (args_sorted1 _) ?_);unfold Builtin.«sorted»;refine(A02 (m:=checkCount "sorted" 1 1 _) (A07 ?_));refine A02 (wpAny_collect_seq t hT ho hc hd (λh1 k1=>?_) (by rw[A0E,A0T];omega));refine wpAny_bind (wpAny_newList ?_ (by simp only[List.size_toArray];rw[sizeLine_eq];omega));have U:(h1.push (seqObj "list" F.toArray 0)).get? h1.objs.size=some (seqObj "list" F.toArray 0):=A0F _ rfl;show wpAny _ _ _ _ _ {z with heap:=h1.push (seqObj "list" F.toArray 0)}
 have a1:Paired (PrT (h1.push (seqObj "list" F.toArray 0))) F ps:=Paired.mapP hP λv p x=>x.keep λb O e _=>A04 _ (k1 b O e);refine A02 (A19 (A24 slot_list_sort ⟨_,U,rfl⟩ entry_list_sort (a20 (z:={z with heap:=h1.push (seqObj "list" F.toArray 0)}) U a1 a0 λout a2 a3=>⟨_,rfl,?_⟩) (args_list_sort _)))
 obtain⟨e,he⟩:=sortedHeap_at (out:=out.toArray) U;refine A07 ⟨_,rfl,h h1 _ out e k1 (λb O Y=>?_) he a2 a3⟩;have Z:=A09 Y;rw[sortedHeap_old (A0N Z) (by rw[size_push'];exact A34 Z)];exact A04 _ Y
end
section
variable {X:Cx}{K:W.Frag}
theorem Zf {pins:List (Addr×Obj)}{σ:St}{H:Hp}{s:Shared}(I:Inv X pins σ H s):∀ {ps:List (Str×Str)} {vs:List V} {its:List Value},IsL X.K H (ps.map prD) vs->Vals vs its->Paired (PrT s.heap) its ps
 | [],vs,its,h,r=>by
   cases vs with
   |nil=>cases r;exact .nil
   |cons v vs=>exact absurd (IsL.length h) (by simp)
 |p :: ps,vs,its,h,r=>by
   cases vs with
   |nil=>exact absurd (IsL.length h) (by simp)
   |cons v vs=>
     cases r with
     |cons r rr=>
       rw[A0P] at h;simp only[IsL] at h;obtain⟨_,_,e,h1,h2⟩:=h
       cases e;obtain⟨a,rfl,Y⟩:=h1.pr
       cases r;obtain⟨us,Z,⟨o,F,O,n,U⟩,_⟩:=I.tuple Y;obtain⟨u1,u2,rfl,⟨t1,rfl⟩,⟨t2,rfl⟩⟩:=Vals.two Z;exact .cons ⟨a,o,n,t1,t2,rfl,F,O,U⟩ (Zf I h2 rr)
theorem U7 {H:Hp}{ps:List (Str×Str)}{vs:List V}(h:IsL K H (ps.map prD) vs):∀ {js:List Nat},(∀ j∈js,j<ps.length)->IsL K H ((js.map λj=>ps.getD j ("","")).map prD) (js.map λj=>vs.getD j .non)
 | [],_=>.nil
 |j :: js,hj=>by
   have hl:ps.length=vs.length:=by rw[<- IsL.length h,A01]
   have Y:=hj j (by simp);have F:vs[j]? = some (vs.getD j .non):=by rw[A2C,A00 (by omega)];rfl
   obtain⟨d,hd,U⟩:=IsL.get h F;have O:(ps.map prD)[j]? = some (prD (ps.getD j ("",""))):=by rw[A06,A2C,A00 Y];rfl
   rw[O] at hd
   cases hd;exact .cons U (U7 h λi hi=>hj i (by simp[hi]))
theorem Qd {vs:List V}{F:List Value}(h:Vals vs F):∀ {js:List Nat},(∀ j∈js,j<vs.length)->Vals (js.map λj=>vs.getD j .non) (js.map λj=>F.getD j Value.none)
 | [],_=>.nil
 |j :: js,hj=>.cons (Ir h (hj j (by simp))) (Qd h λi hi=>hj i (by simp[hi]))
def a41 {α:Type}(l:List α)(d:α):(List.range l.length).map (λj=>l.getD j d)=l:=by apply List.ext_getElem (by simp);intro i h1 h2;simp[h2]
def Ps (K:W.Frag):List V->Hp->VK->Prop:=λxs H Q=>∃(a:Addr) (vs:List V) (ps:List (Str×Str)),xs=[.ref a]/\(SqL K H a vs\/SqT K H a vs)/\IsL K H (ps.map prD) vs/\ps.length<64/\∀ p zs qs,H p=none->qs.Perm ps->J9 qs->IsL K H (qs.map prD) zs->Q (.ref p) (upd H p (.lst zs))
theorem Ov:CallR X (.builtin "sorted") (Ps X.K):=by
 intro pins s σ H xs us Q I r h;obtain⟨a,vs,ps,rfl,hl,hL,hz,q⟩:=h;obtain⟨u,rfl,ru⟩:=Jq r
 cases ru;have a4:vs.length=ps.length:=by rw[<- IsL.length hL,A01]
 have a0:∀(O:List Value),Vals vs O->∀(h1 h':Heap) (out:List Value) (e:Nat),(∀ b Z,s.heap.get? b=some Z->h1.get? b=some Z)->(∀ b Z,h1.get? b=some Z->h'.get? b=some Z)->h'.get? h1.objs.size=some (seqObj "list" out.toArray e)->aB1 O ps out->out.length=O.length->EP X pins σ Q (.ref h1.objs.size) {s with heap:=h'}:=λO F h1 h' out e k1 k2 he ho a7=>by
  have I1:Inv X pins σ H {s with heap:=h1}:=I.kept (t':=s.toks) k1
  obtain⟨p,U,b2,rfl⟩:=ho;have a6:=F.length;have hn:O.length=ps.length:=by omega
  rw[hn] at U b2
  have a1:∀ j∈p.toList,j<ps.length:=λj Y=>by have:=(A41.mp U).mem_iff.mp Y;simpa using this
  refine⟨.ref _,_,I1.laid (t':=s.toks) (o:=.lst (p.toList.map λj=>vs.getD j .non)) k2 (A0B _) ⟨by rw[A01,A1O,U.size,A0T];omega,_,e,Qd F λj Y=>by rw[a4];exact a1 j Y,he⟩,rfl,q _ _ (p.toList.map λj=>ps.getD j ("","")) (I1.hok.fresh (A0B _)) ?_ ?_ (U7 hL a1)⟩
  . have:=(A41.mp U).map λj=>ps.getD j ("","");have e:((List.range ps.length).toArray.toList.map λj=>ps.getD j ("",""))=ps:=a41 ps _;rw[e] at this;exact this
  refine A49.mpr λi j hi Y a5=>?_;rw[A01,A1O] at hi Y;rw[List.getElem_map,List.getElem_map];have hs:=U.size;have gi:p.toList[i]=p.getD i 0:=by simp[Array.getD,hi]
  have gj:p.toList[j]=p.getD j 0:=by simp[Array.getD,Y]
  rw [gi,gj];have a2:=b2 i j (by omega) (by omega)
  cases c:pLt (ps.getD (p.getD j 0) ("","")) (ps.getD (p.getD i 0) ("","")) with
  |false=>rfl
  |true=>have:=(a90 ps (U.lt (i:=j) (by omega))).mpr c;unfold rkA at a2;omega
 rcases hl with hl|hl
 . obtain⟨O,F,⟨o,n,h1,h2,_,h3⟩,_⟩:=I.list hl;have a3:=F.length;exact Od (.inl rfl) h1 h2 h3 (Zf I hL F) (by omega) (a0 O F)
 obtain⟨O,F,⟨o,h1,h2,n,h3⟩,_⟩:=I.tuple hl;have a3:=F.length;exact Od (.inr rfl) h1 h2 h3 (Zf I hL F) (by omega) (a0 O F)
def Rg (F:X.K=K:=by ac_nf):CallR X (.builtin "sorted") (Ps K):=F ▸ Ov
def Xq {a:Addr}{vs:List V}{ps:List (Str×Str)}{H:Hp}{Q:VK}(h:SqL K H a vs\/SqT K H a vs)(U:IsL K H (ps.map prD) vs)(hz:ps.length<64)(k:∀ p zs qs H',H p=none->Same H H'->H' p=some (.lst zs)->qs.Perm ps->J9 qs->IsL K H' (qs.map prD) zs->Q (.ref p) H'):Ps K [.ref a] H Q:=
 ⟨a,vs,ps,rfl,h,U,hz,λp zs qs F h1 h2 O=>k p zs qs _ F (Same.upd F) Aj h1 h2 (IsL.mono (Same.upd F) _ _ O)⟩
end
end L2
namespace L2
open PySem PySem.Spec PyProof.Rows
variable {Q:Value->Shared->Prop}
theorem HalfW.h {ns:List Str}{ps:List (Str×Str)}(h:HalfW ns ps)(Z:Names ns)(hf:ns.length<=10)(hl:ps.length<=60):Half ns ps:=by
 have hp:=Yx (b:=Ck ps) (a49 h) an4 ns.length ns rfl h.nd;obtain⟨r,hr⟩:=List.exists_mem_of_length_pos (l:=ext (Ck ps) ns.length ns) hp;obtain⟨h1,h2⟩:=(Ta _ _ _ _ h.nd rfl).mp hr;refine⟨Z,hf,hl,r,h1,λp F=>?_⟩;have Y:=(ay9 h.nd h.mem h1).mp h2 p F;obtain⟨m1,m2⟩:=h.mem p F;have O:=List.idxOf_lt_length_iff.mpr (h1.mem_iff.mpr m1);have U:=List.idxOf_lt_length_iff.mpr (h1.mem_iff.mpr m2);refine⟨_,_,Y,?_,?_⟩
 . rw[A00 O,List.getElem_idxOf]
 rw [A00 U,List.getElem_idxOf]
def a11 (xs ys:List Str):PyData.eqvAll (xs.map PyData.str) (ys.map PyData.str)=decide (xs=ys):=by
 induction xs generalizing ys with
 |nil=>cases ys<;>simp[PyData.eqvAll]
 |cons x xs ih=>
   cases ys with
   |nil=>simp[PyData.eqvAll]
   |cons y ys=>
     simp only[List.map_cons,PyData.eqvAll,ih,PyData.eqv]
     by_cases c:x=y
     . subst c;simp
     simp[c]
def a19 (xs ys:List (Str×Str)):PyData.eqvAll (xs.map prD) (ys.map prD)=decide (xs=ys):=by
 induction xs generalizing ys with
 |nil=>cases ys<;>simp[PyData.eqvAll]
 |cons x xs ih=>
   cases ys with
   |nil=>simp[PyData.eqvAll]
   |cons y ys=>
     simp only[List.map_cons,PyData.eqvAll,ih,az0]
     by_cases c:x=y
     . subst c;simp
     simp[c]
def Iw {α:Type}[DecidableEq α]{a b:List α}(ha:a.Nodup)(F:b.Nodup)(h:∀ z,z∈a↔z∈b):a.Perm b:=(List.perm_ext_iff_of_nodup ha F).mpr h
def Wj {ns ms ns' F:List Str}(h1:ms.Perm ns)(h2:sortedS ms=true)(O:F.Perm ns')(U:sortedS F=true)(hn:ns.Nodup)(Y:ns'.Nodup):ms=F↔∀ z,z∈ns↔z∈ns':=by
 constructor
 . rintro rfl z;rw[<- h1.mem_iff,O.mem_iff]
 intro h;exact O7 (h1.trans ((Iw hn Y h).trans O.symm)) h2 U
def Tk {ns ms ns' F:List (Str×Str)}(h1:ms.Perm ns)(h2:J9 ms)(O:F.Perm ns')(U:J9 F)(hn:ns.Nodup)(Y:ns'.Nodup):ms=F↔∀ z,z∈ns↔z∈ns':=by
 constructor
 . rintro rfl z;rw[<- h1.mem_iff,O.mem_iff]
 intro h;exact T0 (h1.trans ((Iw hn Y h).trans O.symm)) h2 U
section
variable {κ:Type}[DecidableEq κ]{P:Program}{w:World}{kd:KeyKind P w κ}{A:Around}{E:Value->Shared->Prop}{z:Shared}
end
section
variable {X:Cx}{K:W.Frag}
end
section
variable {P:Program}{w:World}{A:Around}{E:Value->Shared->Prop}{z:Shared}
end
def Ll (h:Heap)(c TI TO:Addr)(F:Value)(O:Bool):Prop:=h.get? c=some {cls:=.type "zip",dict:=none,data:=.fields #[F,.bool O,.bool false,.ref TI,.ref TO],slots:=#[]}
section
variable {P:Program}{w:World}{A:Around}{E:Value->Shared->Prop}{z:Shared}
theorem Ue {c TI TO i1 i2:Addr}{fp1:List Addr}{n:Nat}{P1:Nat->Value->Prop}{S1:Nat->Heap->Prop}{Q:PySem.Fin->Shared->Prop}
 (Y:Draws P w A i1 fp1 n P1 S1) (O:Ll z.heap c TI TO .none false) (a6:IsPair z.heap TI (.ref i1) (.ref i2)) (h1:S1 n z.heap) (c1:c∉fp1) (y1:i1≠c)
 (stop:∀ g e,(∀ b F,b≠c->b≠i1->z.heap.get? b=some F->g.get? b=some F)->(∃ F,g.get? e=some F/\F.cls = .type "StopIteration")->E (.ref e) {z with heap:=g}) :
 wpAny (model P w) A (Builtin.«zip.__next__» ⟨[.ref c],[]⟩) Q E z:=by
 show wpAny _ _ (field (.ref c) 2 >>= _) _ _ _;refine(A02 (A1E O rfl (x:=.bool false) rfl ?_));show wpAny _ _ (field (.ref c) 3 >>= _) _ _ _;refine(A02 (A1E O rfl (x:=.ref TI) rfl ?_));refine(A02 (A29 a6 rfl ?_));show wpAny _ _ (Builtin.SmallTypes.ownedTupleIsFree (.ref c) >>= _) _ _ _;refine(A02 ?_);unfold Builtin.SmallTypes.ownedTupleIsFree;refine(A02 (A1E O rfl (x:=.none) rfl (A07 ?_)));simp only[if_true];refine(A02 (A4T ?_));refine(A02 (A1E O rfl (x:=.ref TO) rfl ?_));refine(wpAny_bind (wpAny_setField_rec O (by simp) λg0 a7 a2=>?_));refine(A02 ?_);simp only[List.zipIdx_cons,List.zipIdx_nil,List.forIn_cons,List.forIn_nil];have a5:S1 n g0:=Y.frame n _ _ h1 λb hb F q=>a2.extBut b F (λe=>c1 (e ▸ hb)) q;refine(A02 (A02 (A3Y ?_)));show wpAny _ _ (Builtin.SmallTypes.nextOf (.ref i1) >>= _) _ _ _;refine(A02 (Y.done _ _ _ a5 λg1 e a3 he=>?_));obtain⟨oe,U,a1⟩:=he;have a0:Ll g1 c TI TO .ellipsis false:=a3 _ _ (Ne.symm y1) a7;have a8:e≠c:=λq=>by subst q;rw[show g1.get? _=_ from a0] at U;cases U;simp at a1
 refine(wpAny_setField_rec a0 (by simp) λg2 _ a4=>stop g2 e (λb F Z b2 q=>a4.extBut b F Z (a3 b F b2 (a2.extBut b F Z q))) ⟨oe,a4.extBut _ _ a8 U,a1⟩)
end
section
variable {P:Program}{w:World}{A:Around}{E:Value->Shared->Prop}{z:Shared}{c TI TO i1 i2 D:Addr}{fp1 fp2:List Addr}{n:Nat}{P1 P2:Nat->Value->Prop}{S1 S2:Nat->Heap->Prop}
end
section
variable {P:Program}{w:World}{κ:Type}[DecidableEq κ]{kd:KeyKind P w κ}{A:Around}{E:Value->Shared->Prop}{c TI TO i1 i2 D:Addr}{fp1 fp2:List Addr}{n:Nat}{P1 P2:Nat->Value->Prop}{S1 S2:Nat->Heap->Prop}
end
abbrev tiO (l:Addr):Obj:={cls:=.type "tuple_iterator",data:=.fields #[.ref l,.int 0 0]}
abbrev liO (l:Addr):Obj:={cls:=.type "list_iterator",data:=.fields #[.ref l,.int 0 0]}
abbrev zp1 (h:Heap)(p q:Obj):Heap:=(h.push p).push q
abbrev zp2 (h:Heap)(p q:Obj):Heap:=(zp1 h p q).push {cls:=.type "tuple",data:=.seq #[.ref h.objs.size,.ref (h.push p).objs.size]}
abbrev zp3 (h:Heap)(p q:Obj):Heap:=(zp2 h p q).push {cls:=.type "tuple",data:=.seq #[.none,.none]}
abbrev zp4 (h:Heap)(p q:Obj):Heap:=(zp3 h p q).push {cls:=.type "zip",data:=.fields #[.none,.bool false,.bool false,.ref (zp1 h p q).objs.size,.ref (zp2 h p q).objs.size]}
def Td (a b:Addr)(xs ys:Array Value) :
 Meets (Builtin.«zip.__new__» ⟨[.type "zip",.ref a,.ref b],[]⟩) (λ_ R s=>s.heap.IsTuple a xs/\s.heap.IsTuple b ys/\R (.ok (.ret (.ref (zp3 s.heap (tiO a) (tiO b)).objs.size))) {s with heap:=zp4 s.heap (tiO a) (tiO b)}):=
 .of_wp λprog w A R s O=>by
  obtain⟨F,g,d,tk,os⟩:=s;obtain⟨ha,Z,go⟩:=O;have a0:=sub_zip;have U:Heap.IsTuple (Shared.heap ⟨F,g,d,tk,os⟩) a xs:=ha;have Y:Heap.IsTuple (Shared.heap ⟨F.push (tiO a),g,d,tk,os⟩) b ys:=let ⟨o,h1,h2⟩:=Z;⟨o,A04 _ h1,h2⟩
  wp_walk using A2G U,A2G Y
  exact⟨_,rfl,go⟩
section
variable {P:Program}{w:World}{A:Around}{E:Value->Shared->Prop}{z:Shared}
theorem U3 {h:Heap}{p q:Obj}{s:Shared}(hs:s.heap=h)
 (go:∀ g,Ll g (h.objs.size+4) (h.objs.size+2) (h.objs.size+3) .none false->IsPair g (h.objs.size+2) (.ref h.objs.size) (.ref (h.objs.size+1))->IsPair g (h.objs.size+3) .none .none ->
  g.get? h.objs.size=some p->g.get? (h.objs.size+1)=some q->g.objs.size=h.objs.size+5->(∀ b o,h.get? b=some o->g.get? b=some o)->Q (.ref (h.objs.size+4)) {s with heap:=g}) (hp:p.isFreed=false) (hq:q.isFreed=false) :
 Q (.ref (zp3 h p q).objs.size) {s with heap:=zp4 h p q}:=by
 have F:(h.push p).objs.size=h.objs.size+1:=A1U ..;have O:(zp1 h p q).objs.size=h.objs.size+2:=by rw[A1U,F]
 have U:(zp2 h p q).objs.size=h.objs.size+3:=by rw[A1U,O]
 have Y:(zp3 h p q).objs.size=h.objs.size+4:=by rw[A1U,U]
 have z5:(zp4 h p q).objs.size=h.objs.size+5:=by rw[A1U,Y]
 have g5:(zp4 h p q).get? (zp3 h p q).objs.size=some _:=A0F _ rfl;have g4:(zp4 h p q).get? (zp2 h p q).objs.size=some _:=A04 _ (A0F _ rfl);have g3:(zp4 h p q).get? (zp1 h p q).objs.size=some _:=A04 _ (A04 _ (A0F _ rfl));have Z:(zp4 h p q).get? (h.push p).objs.size=some q:=A04 _ (A04 _ (A04 _ (A0F _ hq)));have g1:(zp4 h p q).get? h.objs.size=some p:=A04 _ (A04 _ (A04 _ (A04 _ (A0F _ hp))));rw[O,U,Y] at g5;rw[F,O] at g3;rw[U] at g4;rw[F] at Z;rw[Y];exact go _ g5 g3 g4 g1 Z z5 λb o k=>A04 _ (A04 _ (A04 _ (A04 _ (A04 _ k))))
theorem Wd {a b:Addr}{xs ys:Array Value}(ha:z.heap.IsTuple a xs)(hb:z.heap.IsTuple b ys)
 (go:∀ g,Ll g (z.heap.objs.size+4) (z.heap.objs.size+2) (z.heap.objs.size+3) .none false->IsPair g (z.heap.objs.size+2) (.ref z.heap.objs.size) (.ref (z.heap.objs.size+1))->IsPair g (z.heap.objs.size+3) .none .none ->
  g.get? z.heap.objs.size=some (tiO a)->g.get? (z.heap.objs.size+1)=some (tiO b)->g.objs.size=z.heap.objs.size+5->(∀ b o,z.heap.get? b=some o->g.get? b=some o)->Q (.ref (z.heap.objs.size+4)) {z with heap:=g}) :
 wpAny (model P w) A (call (.type "zip") [.ref a,.ref b]) Q E z:=by
 refine callType_new F.called_zip ∅ (F.typeCall_zip_2 _ _) (F.newCall_zip_2 _ _) (λobj=>F.args_object_init_3 obj _ _) F.entry_zip_new (Td a b xs ys) ⟨ha,hb,?_⟩;refine U3 (Q:=λv s'=>s'.TypeIs v "zip" /\ Q v s') rfl (λg O Z g4 U Y z5 kp=>⟨⟨_,O,rfl⟩,go g O Z g4 U Y z5 kp⟩) rfl rfl
end
section
variable {X:Cx}{K:W.Frag}
end
section
variable {K:W.Frag}{H:Hp}{Q:VK}
def Hj {u:Addr}{ns:List Str}{z:Str}(h:SqL K H u (ns.map V.str)\/SqT K H u (ns.map V.str))(k:Q (.bl (decide (z∈ns))) H):Sq K false (.str z) (.ref u) H Q:=by
 rcases h with h|h
 . exact Z1 h k
 exact aE8 (Z7 h) k
end
section
variable {ns ns':List Str}{ps ps' bs:List (Str×Str)}
end
section
variable {ns:List Str}{ps:List (Str×Str)}
end
section
variable {P:Program}{w:World}{A:Around}{E:Value->Shared->Prop}{z:Shared}
end
section
variable {X:Cx}{K:W.Frag}
end
section
variable {α:Type}[DecidableEq α]{b:α->α->Bool}{L:List α}
end
def au8:List V->Hp->VK->Prop:=λxs H Q=>∃ i:Int,xs=[.int i]/\i.natAbs.log2<1920/\Q (.str (toString i)) H
def Wp {X:Cx}:CallR X (.builtin "repr") au8:=by intro pins s σ H xs us Q I r h;obtain⟨i,rfl,hz,q⟩:=h;obtain ⟨u,rfl,t,rfl⟩:=Jq r;exact PySem.P.repr_of_int hz ⟨.str _,H,I.tok _,⟨_,rfl⟩,q⟩
def xB:List Value:=[.type "ValueError",.type "Exception",.type "BaseException",.type "object"]
def ai3 (K:W.Frag)(C:Addr):Bool:=match K.lookup C with
 |some ⟨.type "type",_,.cls cd,sl⟩=>(match cd.mro,sl.toList with
   |.ref D :: bm,[_,_,_,_,some (.builtin n),_]=>D==C&&n == "ValueError.__new__" && !cd.hasDel&&cd.hasDict&&W.tailIn K xB bm
   |_,_=>false)
 |_=>false
theorem Lu {K:W.Frag}{C:Addr}(q:ai3 K C=true):∃(nm qn:Str) (N:Addr) (bs F:List Value) (sn:List Str) (sub:List Value) (ab:Bool) (a0:Option Bool) (dd:Option Addr) (O U Y Z k5:Option Value),
 K.lookup C=some (excClassObj nm qn C N bs F true sn sub ab a0 dd O U Y Z k5 "ValueError.__new__")/\W.tailIn K xB F=true:=by
 unfold ai3 at q
 split at q
 . rename_i dd cd sl ho
   split at q
   . rename_i D F O U Y Z n k5 hm hs;simp only[Bool.and_eq_true,beq_iff_eq,Bool.not_eq_true'] at q;obtain⟨⟨⟨⟨e1,e2⟩,a2⟩,a1⟩,ht⟩:=q;subst e1 e2;obtain⟨nm,bs,mro,ns,qn,hd,sn,sub,ab,a0,a3⟩:=cd;dsimp only at hm a2 a1;subst hm a2 a1
     have e3:sl = #[O,U,Y,Z,some (.builtin "ValueError.__new__"),k5]:=by obtain⟨l⟩:=sl;simp only at hs;rw[hs]
     subst e3;exact⟨nm,qn,ns,bs,F,sn,sub,ab,a0,dd,O,U,Y,Z,k5,ho,ht⟩
   cases q
 cases q
def X4 (self:Value){h:Heap}{l:List Value}(T:OwnTail h xB l):refuseLoop self "__setattr__" l=pure ():=by
 induction T with
 |base=>exact PySem.F.store_ValueError.passes self
 |own _ _ _ _ ih=>rw[refuseLoop_ref];exact ih
def a87 {h:Heap}{l:List Value}(T:OwnTail h xB l):l.contains (.type "BaseException")=true:=T.hasType (by decide +kernel)
abbrev ao6 (rest:List Value):Obj:={cls:=.type "tuple",data:=.seq rest.toArray}
abbrev a82 (C t:Addr):Obj:={cls:=.ref C,data:=.fields #[.ref t,.none,.none,.none,.bool false,.none]}
section
variable {prog:Program}{w:World}{A:Around}{E:Value->Shared->Prop}{h:Heap}{g:Array GenState}{d:Drawn}{t:Nat}{os:OsState}{K:W.Frag}{C fI:Addr}{rest:List Value}
theorem a26 {Q:Fin->Shared->Prop}(X:K.In h)(q:ai3 K C=true)(hi:W.findIn K (.ref C) "__init__" = some (some (.ref fI)))(ht:W.typeIn K (.ref fI)=some (.type "function"))(hr:rest.length<=sizeLine)
 (hq:wpAny (model prog w) A (call (.ref fI) (.ref (h.objs.size+1) :: rest)) (λr s'=>r = .none/\Q (.done (.ret (.ref (h.objs.size+1)))) s') E ⟨(h.push (ao6 rest)).push (a82 C h.objs.size),g,d,t,os⟩) :
 wpAny (model prog w) A (Builtin.«type.__call__» ⟨.ref C :: rest,[]⟩) Q E ⟨h,g,d,t,os⟩:=by
 obtain⟨nm,qn,N,bs,Y,sn,sub,ab,a4,dd,k0,k1,k2,k3,k5,hl,a3⟩:=Lu q;have F:=PySem.F.excBase_ValueError;have T:OwnTail h xB Y:=A3H X a3;have O:=X _ _ hl
 repeat (first | (with_reducible refine A2L O ?_) | (with_reducible refine wpAny_madeBy_exc O ?_) | wp_step)
 refine codeAny_call_builtin_code (A5A _ F.quiet) (wpAny_check_new_subT F T O (codeAny_exc_new_subT F T O ?_ hr));show wpAny _ _ _ _ _ _;have U:K.In ((h.push (ao6 rest)).push (a82 C h.objs.size)):=X.keeps λb o e=>A04 _ (A04 _ e);have Z:=U _ _ hl;have a1:((h.push (ao6 rest)).push (a82 C h.objs.size)).get? (h.objs.size+1)=some (a82 C h.objs.size):=by heap_get
 have a0:(Value.ref C :: Y).contains (.ref C)=true:=by simp
 unfold isInstance
 repeat (first | (with_reducible refine A2L a1 ?_) | (with_reducible refine A54 Z ?_;rw[a0]) | wp_step)
 show wpAny _ _ (typeLookup (.ref C) _) _ _ _;refine(A3X (M:=model prog w) U hi).at ?_;refine A19 (A02 ((W.bind_fn U _ ht).at ?_));refine A02 (A22 hq (λr s' a2=>?_) λ_ _ x=>x);obtain⟨rfl,hQ⟩:=a2
 wp_walk
 exact hQ
theorem af5 (X:K.In h)(q:ai3 K C=true)(hi:W.findIn K (.ref C) "__init__" = some (some (.ref fI)))(Y:W.typeIn K (.ref fI)=some (.type "function"))(U:rest.length<=sizeLine)
 (O:wpAny (model prog w) (A.under (.builtin "type.__call__" ⟨.ref C :: rest,[]⟩)) (call (.ref fI) (.ref (h.objs.size+1) :: rest)) (λr s'=>r = .none/\Q (.ref (h.objs.size+1)) s') E ⟨(h.push (ao6 rest)).push (a82 C h.objs.size),g,d,t,os⟩) :
 wpAny (model prog w) A (call (.ref C) rest) Q E ⟨h,g,d,t,os⟩:=by
 obtain⟨nm,qn,N,bs,bm,sn,sub,Z,a0,dd,k0,k1,k2,k3,k5,hl,a1⟩:=Lu q;have F:=X _ _ hl;have f1:=tc_lookup;have f2:=tc_bind (.ref C);have tt:(⟨h,g,d,t,os⟩:Shared).TypeIs (.ref C) "type":=⟨_,F,rfl⟩;refine A4S (codeAny_of_tree ?_);show wpAny _ _ (callAny (.ref C) _) _ _ _
 repeat (any_goals (first | assumption | (with_reducible refine A2L F ?_) | wp_step))
 refine⟨rfl,codeAny_call_builtin_at (A5A _ (by decide +kernel)) entry_typeCall (wpAny_check_type_call_sub F (a26 X q hi Y U ?_))⟩;exact O
end
end L2
namespace L2
open PySem PySem.Spec PyProof.Rows
open PySem PySem.Spec PyProof.Rows Builtin Builtin.ObjectAttr
variable {ox:Obj}{od:Option Obj}{Q:Unit->Shared->Prop}
structure XC (K:W.Frag)(C:Addr):Prop where
 ex:ai3 K C=true
 sa:W.findIn K (.ref C) "__setattr__" = some (some (.builtin "object.__setattr__"))
 ga:W.findIn K (.ref C) "__getattribute__" = some (some (.builtin "BaseException.__getattribute__"))
 gt:W.findIn K (.ref C) "__getattr__" = some none
 cl:W.findIn K (.ref C) "__class__" = some (some (.builtin "object.__class__"))
 cg:W.specialIn K (.builtin "object.__class__") "__get__" = some (some (.builtin "getset_descriptor.__get__"))
 ct:W.takesIn K (.builtin "object.__class__")=some true
section
variable {prog:Program}{w:World}{A:Around}{E:Value->Shared->Prop}{s:Shared}{K:W.Frag}{C x:Addr}{name:Str}{v:Value}
def XC.cls (c:XC K C):∃ cd,W.clsIn K C=some cd/\cd.hasDict=true/\∃ F,cd.mro = .ref C :: F/\W.tailIn K xB F=true:=by obtain⟨nm,qn,N,bs,F,sn,sub,U,Y,Z,k0,k1,k2,k3,k5,hl,O⟩:=Lu c.ex;exact⟨_,by unfold W.clsIn;rw[hl],rfl,F,rfl,O⟩
def XC.mro (c:XC K C){h:Heap}(X:K.In h){T:String}(F:xB.contains (.type T)=true):W.mroIn K C (.type T)=some true:=by obtain⟨cd,O,_,Y,hm,U⟩:=c.cls;unfold W.mroIn;rw[O,Option.bind_some,hm,if_neg (by simp)];rw[A3I,(A3H X U).hasType F,Bool.or_true]
theorem ab9 {R:Result->Shared->Prop}{tk:Tok}(c:XC K C)(X:K.In s.heap)(I:W.InstAt s.heap x ox C od)(ht:W.findIn K (.ref C) name=some none)
 (h:∀ b,wpAny (model prog w) A.in1 (storeInOwnDict (.ref x) (.ref C) (.str name tk) name v b)
  (λU s'=>match U with | .done f=>R (.ok f) s' | .again c'=>c'.quiet=true/\codeAny (model prog w) A c' R s') (λe s'=>R (.error e) s') s) :
 codeAny (model prog w) A (.call (.builtin "object.__setattr__") ⟨[.ref x,.str name tk,v],[]⟩) R s:=by
 have O:=PySem.F.store_object;obtain⟨cd,Y,hd,bm,Z,a0⟩:=c.cls;have T:=A3H X a0;have sub:W.Looks (model prog w) s.heap (isInstance (.ref x) (.type "object")) true:=I.type.andThen (A55 X (c.mro X (by decide +kernel)));refine A4W O.slot.plain O.entry (@PySem.W.check_slot (model prog w) _ _ s "object.__setattr__" "object" "__setattr__" (.ref x) [.str name tk,v] [] _ O.kind O.split sub (O.args (.ref x) (.str name tk) v) ?_);have hm:W.Looks (model prog w) s.heap (mroOf (.ref C)) cd.mro:=(A56 X Y).andThen .now;have l3:W.Looks (model prog w) s.heap (storeTaker? none) none:=.now;rw[W.osa_eq,refuse_eq];refine A02 (A02 (I.type.here (A02 (hm.here ?_))));rw[Z,refuseLoop_ref,X4 _ T];refine A07 (A02 (I.type.here (A02 ((A3X X ht).here (A02 (l3.here ?_))))));exact h _
theorem aj6 {vs:Array Value}{O:Array (Option Value)}(c:XC K C)(X:K.In s.heap)(F:s.heap.get? x=some ⟨.ref C,none,.fields vs,O⟩)(ht:W.findIn K (.ref C) name=some none)
 (hq:∀ h',h'.Ns1 s.heap.objs.size (λy=>if y=name then some v else none)->h'.get? x=some ⟨.ref C,some s.heap.objs.size,.fields vs,O⟩->(∀ b o,b≠x->s.heap.get? b=some o->h'.get? b=some o)->Q () {s with heap:=h',toks:=s.toks+2}) :
 wpAny (model prog w) A (setAttr (.ref x) name v) Q E s:=by
 have J:W.InstAt s.heap x ⟨.ref C,none,.fields vs,O⟩ C none:=⟨F,rfl,rfl,A23⟩;obtain⟨cd,hc,hd,bm,a7,a8⟩:=c.cls;refine W.set_plain X J c.sa (ab9 (s:={s with toks:=s.toks+1}) c X J ht λb=>?_)
 refine A02 (A07 (A02 (A02 (wpAny_loadPart F (A02 (W.Looks.here (s:={s with toks:=s.toks+1}) (A56 X hc) ?_))))))
 rw[hd];have Z:(s.heap.push {cls:=.type "dict",data:=.dict #[]}).get? x=some ⟨.ref C,none,.fields vs,O⟩:=A04 _ F;have a0:x≠s.heap.objs.size:=A0N (A09 F);refine A02 (wpAny_alloc' ?_);refine A02 (wpAny_update' Z ?_);refine A07 ?_
 have a3:((s.heap.push {cls:=.type "dict",data:=.dict #[]}).update x λo=>{o with dict:=some s.heap.objs.size}).get? s.heap.objs.size=some {cls:=.type "dict",data:=.dict #[]}:=
  (A53 _ _ _ _ a0.symm).trans (Heap.get?_push_at rfl rfl)
 have hnd:((s.heap.push {cls:=.type "dict",data:=.dict #[]}).update x λo=>{o with dict:=some s.heap.objs.size}).Ns s.heap.objs.size (λ_=>none):=
  ⟨_,#[],_,a3,rfl,λe he=>absurd he (by simp),λ_=>rfl⟩
 show wpAny _ _ (storeInDict s.heap.objs.size (.str name _) name v) _ _ _;unfold storeInDict newKeyGuard;refine A02 (A07 (A02 (wpAny_nsSet1 (Heap.Ns1.of_empty hnd) λh' Y hs=>?_)));obtain⟨oD,a6,a5,a4,a2,a1⟩:=Y.count (Within.cons name v Within.nil);refine A02 (wpAny_lookBehind a4 (by rw[a2];exact pastItsLine_dict (A0M a1 (by rw[A0X,List.length_nil,A0T];omega))) ?_);refine A07 (hq h' Y ((hs.2 x a0).trans (A3R _ Z rfl)) λb o hb U=>?_);exact(hs.2 b (A0N (A09 U))).trans ((A53 _ _ _ _ hb).trans (A04 _ U))
theorem an6 {dx:Addr}{mA:Str->Option Value}{ns:List Str}{vs:Array Value}{U:Array (Option Value)}(c:XC K C)(X:K.In s.heap)(O:s.heap.get? x=some ⟨.ref C,some dx,.fields vs,U⟩)(hn:s.heap.Ns1 dx mA)
 (hw:Within mA ns) (hz:ns.length<=sizeLine) (ht:W.findIn K (.ref C) name=some none)
 (hq:∀ h',h'.Ns1 dx (λy=>if y=name then some v else mA y)->Heap.SameBut dx s.heap h'->Q () {s with heap:=h',toks:=s.toks+2}) :
 wpAny (model prog w) A (setAttr (.ref x) name v) Q E s:=by
 obtain⟨od,_,_,a2,_⟩:=id hn;have J:W.InstAt s.heap x ⟨.ref C,some dx,.fields vs,U⟩ C (some od):=⟨O,rfl,rfl,a2⟩;obtain⟨cd,Y,hd,bm,a6,a7⟩:=c.cls;refine W.set_plain X J c.sa (ab9 (s:={s with toks:=s.toks+1}) c X J ht λb=>?_)
 refine A02 (A07 (A02 (A02 (wpAny_loadPart O (A02 (W.Looks.here (s:={s with toks:=s.toks+1}) (A56 X Y) ?_))))))
 rw[hd];refine A07 (a:=some dx) (A02 (A07 (A02 ?_)));refine wpAny_nsSet1 (s:={s with toks:=s.toks+1}) hn λh' F a3=>?_
 obtain⟨oD,a5,a4,a1,a0,Z⟩:=F.count (Within.cons name v hw);refine A02 (wpAny_lookBehind a1 (by rw[a0];exact pastItsLine_dict (A0M Z (by rw[A0X];omega))) ?_);exact A07 (hq _ F a3)
def a47 {M:Model}{O:Value}(c:XC K C)(X:K.In s.heap)(I:W.InstAt s.heap x ox C od)(U:Q () s) :
 wpAny M A (checkBuiltinCall "BaseException.__getattribute__" ⟨[.ref x,O],[]⟩) Q E s:=by
 have sub:W.Looks M s.heap (isInstance (.ref x) (.type "BaseException")) true:=I.type.andThen (A55 X (c.mro X (by decide +kernel)));exact @PySem.W.check_slot M _ _ s "BaseException.__getattribute__" "BaseException" "__getattribute__" (.ref x) [O] [] _ (by decide +kernel) (by decide +kernel) sub (PySem.F.args_bexc_ga (.ref x) O) U
theorem aq5 {fill U:Bool}{tk:Tok}{Q:Value->Shared->Prop}(c:XC K C)(X:K.In s.heap)(I:W.InstAt s.heap x ox C od)
 (h:wpAny (model prog w) A.in1 (Builtin.«object.__getattribute__» ⟨[.ref x,.str name tk],[]⟩)
  (λO s'=>match O with | .done (.ret v)=>wpAny (model prog w) A (handedOut v) Q E s' | _=>False) (λ_ _=>False) s):wpAny (model prog w) A (getAttrBy (.ref x) (.str name tk) fill U) Q E s:=by
 obtain⟨hh,g,d,t,os⟩:=s;have l0:=I.type (M:=model prog w);have l1:=A3X (M:=model prog w) X c.ga;have l2:=A3X (M:=model prog w) X c.gt;have Z:=PySem.F.excAttr_ValueError.ga.bind (.ref x);have Y:(Value.builtin "BaseException.__getattribute__" == Value.builtin "object.__getattribute__")=false:=by decide +kernel
 unfold getAttrBy;refine A19 (A02 (l0.at (A02 (l1.at ?_))));show wpAny _ _ (if(onTheHeap (Value.ref C)&&Value.builtin "BaseException.__getattribute__" == Value.builtin "object.__getattribute__")=true then _ else _) _ _ _
 rw[Y,A50,A0J ∅];unfold getAttrByItsOwn hookBefore;rw[A0K (show onTheHeap (Value.ref C)=true from rfl)];refine A02 (l2.at (A02 (A5B (A19 ?_))));unfold callGetattribute;rw[A0J (by cases U<;>decide)]
 unfold boundAndCalled;rw[Z];refine A02 (A07 (A4S (A4W PySem.F.excAttr_ValueError.ga.plain PySem.F.entry_bexc_ga (a47 (s:=⟨hh,g,d,t,os⟩) c X I ?_))));refine A22 h (λO s' z=>?_) λ_ _ z=>z.elim;rcases O with (_ | _ | _ | _) | _<;>first | exact z | exact z.elim
theorem aq3 {F:Bool}{Q:Value->Shared->Prop}{od:Obj}(c:XC K C)(X:K.In s.heap)(I:W.InstAt s.heap x ox C (some od))(Y:W.findIn K (.ref C) name=some none)(hl:W.lookIn name od=some (some v))
 (Z:W.handedIn v=true) (h:Q v {s with toks:=s.toks+1}):wpAny (model prog w) A (getAttr (.ref x) name F) Q E s:=by
 obtain⟨U,g,d,t,os⟩:=s;obtain⟨cd,O,hd,bm,a0,a1⟩:=c.cls;have l0:=I.type (M:=model prog w)
 have hf:W.findObj K C (some od) name=some (.value v):=by unfold W.findObj W.ownOf;simp only[O,Y,hd,hl,Option.bind_some,if_true]
 have l3:=W.looks_find (M:=model prog w) X I hf;unfold getAttr;refine A02 (wpAny_mkText (aq5 (s:=⟨U,g,d,t+1,os⟩) c X I ?_));refine A02 (A07 (A02 (A07 (A02 (l0.at (A02 (l3.at ?_)))))));refine A07 ?_;show wpAny _ _ (handedOut v) _ _ _;rw[W.handedOut_of Z];exact A07 h
theorem a81 {Q:Option Value->Shared->Prop}(c:XC K C)(X:K.In s.heap)(I:W.InstAt s.heap x ox C od)(h:Q (some (.ref C)) {s with toks:=s.toks+1}) :
 wpAny (model prog w) A (getAttr? (.ref x) "__class__") Q E s:=by
 obtain⟨F,g,d,t,os⟩:=s;obtain⟨cd,O,hd,Z,a0,a1⟩:=c.cls;have U:=I.type (M:=model prog w)
 have hf:W.findObj K C od "__class__" = some (.bind (.builtin "getset_descriptor.__get__") (.builtin "object.__class__")):=by unfold W.findObj;simp only[O,c.cl,c.cg,c.ct,Option.bind_some]
 have Y:=W.looks_find (M:=model prog w) X I hf;unfold getAttr? getAttrBy?;refine A02 (wpAny_mkText (A02 (A5B ?_)));refine aq5 (s:=⟨F,g,d,t+1,os⟩) c X I ?_;refine A02 (A07 (A02 (A07 (A02 (U.at (A02 (Y.at ?_)))))));show wpAny _ _ (holding [Value.builtin "object.__class__"] (call (.builtin "getset_descriptor.__get__") [.builtin "object.__class__",.ref x,.ref C]) >>= ret) _ _ _;refine A02 (A19 (A4S (W.class_get (s:=⟨F,g,d,t+1,os⟩) (ox:=ox) (od:=od) X I (c.mro X (by decide +kernel)) ?_)));refine A07 ?_;show wpAny _ _ (handedOut (.ref C)) _ _ _;rw[W.handedOut_of rfl];exact A07 (A07 h)
def Y8 (c:XC K C):W.KitX K (.ref x) (.ref C) (λh=>W.InstAt h x ox C od) where
 ty:=λ_ _ _ I=>I.type
 it:=λ_ _ X _=>by obtain⟨nm,qn,N,bs,U,sn,sub,O,Y,F,k0,k1,k2,k3,k5,hl,Z⟩:=Lu c.ex;intro A' Q' E' s' k q;unfold isType loadHead;exact A02 (wpAny_loadPart (k _ _ (X _ _ hl)) (A07 q))
 ne:=λh tp F a1 n sl X a0=>by obtain⟨nm,qn,N,bs,U,sn,sub,O,Y,F,k0,k1,k2,k3,k5,hl,Z⟩:=Lu c.ex;refine Bool.eq_false_iff.mpr λq=>?_;have e:C=tp:=A5C (A2V.mp q);subst e;have z:=congrArg Obj.cls (A10 ((X _ _ hl).symm.trans a0));exact absurd (Value.type.inj z) ∅
 ca:=λX I k=>a81 c X I k
end
end L2
namespace L2
open PySem PySem.Spec PyProof.Rows
variable {a C:Addr}{n' b:Bool}{X:Cx}{H:Hp}{i p:Nat}{pos:Pos}{D:PyData}{p0 p1 z:Str}{Q:Unit->Shared->Prop}{E:Value->Shared->Prop}
def exG (n:Bool)(a C:Addr)(od:Option Addr):HO:=.ext λh=>∃ vs F,h.get? a=some ⟨.ref C,od,.fields vs,F⟩/\(n=true->vs[1]? = some .none)
abbrev exO (a C:Addr)(od:Option Addr):HO:=exG true a C od
def xdO (dx:Addr)(fs:List (Str×V)):HO:=.ext λh=>∃ mA,h.Ns1 dx mA/\∀ f,RelO (fs.lookup f) (mA f)
section
variable {P:Program}{w:World}{h:Heap}{dx:Addr}{od:Option Addr}{fs:List (Str×V)}
def exG_ok {n:Bool}:ObjOk P w H h a (exG n a C od)↔∃ vs F,h.get? a=some ⟨.ref C,od,.fields vs,F⟩/\(n=true->vs[1]? = some .none):=
 ⟨λx=>x.1,λ⟨vs,F,e,z⟩=>⟨⟨vs,F,e,z⟩,⟨_,e⟩,λh1 h2 ⟨vs,F,e,z⟩ k=>⟨vs,F,k _ e,z⟩⟩⟩
def exO_ok:ObjOk P w H h a (exO a C od)↔∃ vs F,h.get? a=some ⟨.ref C,od,.fields vs,F⟩/\(true=true->vs[1]? = some .none):=exG_ok
def xdO_ok:ObjOk P w H h dx (xdO dx fs)↔∃ mA,h.Ns1 dx mA/\∀ f,RelO (fs.lookup f) (mA f):=
 ⟨λx=>x.1,λ⟨mA,n,r⟩=>⟨⟨mA,n,r⟩,(let ⟨o,_,_,e,_⟩:=n;⟨o,e⟩),λh1 h2 ⟨mA,n,r⟩ k=>⟨mA,(let ⟨o,es,ep,e,z⟩:=n;⟨o,es,ep,k _ e,z⟩),r⟩⟩⟩
end
def Nz (K:W.Frag)(C B:Addr):Bool:=(W.clsIn K C).any λcd=>cd.mro == .ref C :: .ref B :: xB
section
variable {K:W.Frag}{B D:Addr}
def XC.ty (c:XC K C):W.typeIn K (.ref C)=some (.type "type"):=by obtain⟨nm,qn,N,bs,O,sn,sub,F,U,Y,k0,k1,k2,k3,k5,hl,Z⟩:=Lu c.ex;show Option.map (λx=>x.cls) (List.lookup C K)=_;rw[hl];rfl
theorem Xm (c:XC K C)(hm:Nz K C B=true)(d:XC K D):W.kitOne K (.ref C) (.ref D)=some (C==D||D==B):=by
 unfold W.kitOne
 by_cases e:C=D
 . subst e;simp
 have U:(Value.ref C==Value.ref D)=false:=A11.mpr λq=>e (A5C q);have Y:(C==D)=false:=A11.mpr e;rw[A0J (by rw[U];decide),Y,A4F];unfold W.kitCls;obtain⟨cd,O,_⟩:=d.cls;dsimp only;rw[A0K (by rw[O,d.ty];rfl)];show W.mroIn K C (.ref D)=_;obtain⟨cd,O,Z⟩:=W.any_some hm;unfold W.mroIn;rw[O,Option.bind_some,beq_iff_eq.mp Z,if_neg (by simp)];rw[A3I,A3I,show xB.contains (Value.ref D)=false from rfl,Bool.or_false];congr 1;rw[show(Value.ref D==Value.ref C)=false from A11.mpr λq=>e (A5C q).symm,A4F]
 by_cases F:D=B
 . subst F;simp
 rw[show(D==B)=false from A11.mpr F,A11.mpr λq=>F (A5C q)]
end
section
variable {pins:List (Addr×Obj)}{σ:St}{s:Shared}{dx:Addr}{fs:List (Str×V)}{f:Str}{v:V}{A:Around}
def ai7 {Q:Value->Shared->Prop}(I:Inv X pins σ H s)(e:H a=some (exG n' a C (some dx)))(O:H dx=some (xdO dx fs))(c:XC X.K C)(n:Hb X.K C f)(l:fs.lookup f=some v)
 (h:∀ u s',Inv X pins σ H s'->RelV v u->Q u s'):wpAny (model X.prog X.w) A (getAttr (.ref a) f b) Q E s:=by
 obtain⟨vs,Y,F,_⟩:=exG_ok.mp (I.hok a _ e);obtain⟨mA,hn,r⟩:=xdO_ok.mp (I.hok dx _ O);obtain⟨u,hu,ru⟩:=RelO.some_of (v:=v) (o:=mA f) (by rw[<- l];exact r f);obtain⟨od,U,hl⟩:=Se hn;exact aq3 c I.kIn ⟨F,rfl,rfl,U⟩ n (by rw[hl,hu]) (X5 ru) (h u _ (I.tok _) ru)
def Z9 {mA:Str->Option Value}(r:∀ f,RelO (fs.lookup f) (mA f)):PySem.Within mA (fs.map (·.1)):=λg F=>by
 cases q:fs.lookup g with
 |none=>exact absurd (RelO.none_of (by rw[<- q];exact r g)) F
 |some v=>exact A0A.mpr ⟨(g,v),A2P q,rfl⟩
theorem a38 {y:V}{u:Value}(I:Inv X pins σ H s)(e:H a=some (exO a C none))(c:XC X.K C)(n:Hb X.K C f)(ry:RelV y u)
 (h:∀ dx s',H dx=none->dx≠a->Inv X pins σ (upd (upd H dx (xdO dx [(f,y)])) a (exO a C (some dx))) s'->Q () s'):wpAny (model X.prog X.w) A (setAttr (.ref a) f u) Q E s:=by
 obtain⟨vs,sl,Z,a0⟩:=exO_ok.mp (I.hok a _ e);refine aj6 c I.kIn Z n λh' hn he U=>?_;have hf:H s.heap.objs.size=none:=I.hok.fresh (A0B _);have a1:s.heap.objs.size≠a:=A2O (A09 Z);have na:∀ b,H b=none->b≠a:=λb q z=>by rw[z,e] at q;cases q
 have nd:∀ b u,H b=some u->b≠s.heap.objs.size:=λb u q z=>by rw[z,hf] at q;cases q
 have nb:∀ b o,s.heap.get? b=some o->b≠s.heap.objs.size:=λb o q=>A0N (A09 q);have hu:∀ b o,H b=some o->b≠a->upd (upd H s.heap.objs.size (xdO s.heap.objs.size [(f,y)])) a (exO a C (some s.heap.objs.size)) b=some o:=λb o q z=>by rw[Ay z,Ay (nd b o q)];exact q
 refine h _ _ hf a1 (I.un ⟨λb o q z _ _=>U b o (na b z) q,λb o q z _ _=>⟨o.slots,U b o (na b z) q⟩,λb o q z _=>by rw[Ay (na b z),Ay (nb b o q)];exact z,λb o q _=>?_,
  λb xs q=>hu b _ q λz=>?_,λb o u q=>hu b _ q λz=>?_,λb ps q=>⟨#[],?_⟩⟩ λb o q=>?_)
 . by_cases z:b=a
   . subst z;exact⟨_,he⟩
   exact⟨o,U b o z q⟩
 . rw[z,e] at q;cases q
 . rw[z,e] at q;cases q
 . rw[Array.append_empty];exact hu b _ q λz=>by rw[z,e] at q;cases q
 by_cases z:b=a
 . subst z;rw[Aj] at q;cases q;exact exO_ok.mpr ⟨_,_,he,a0⟩
 rw[Ay z] at q
 by_cases z2:b=s.heap.objs.size
 . subst z2;rw[Aj] at q;cases q;refine xdO_ok.mpr ⟨_,hn,λg=>?_⟩;show RelO (List.lookup g [(f,y)]) (if g=f then some u else none)
   by_cases q:g=f
   . have Y:(g==f)=true:=A2V.mpr q;simp only[List.lookup,Y,if_pos q];exact ry
   have Y:(g==f)=false:=A11.mpr q;simp only[List.lookup,Y,if_neg q];exact True.intro
 rw[Ay z2] at q;refine(I.hok b o q).stay (λc v F r=>U c v (λO=>?_) r) (λc r=>hu c _ r λO=>?_) λc xs r=>hu c _ r λO=>?_
 . subst O;rcases F with F|F
   . exact z F.symm
   rw[e] at F;cases F
 . rw[O,e] at r;cases r
 rw[O,e] at r;cases r
theorem a30 {y:V}{u:Value}(I:Inv X pins σ H s)(e:H a=some (exO a C (some dx)))(F:H dx=some (xdO dx fs))(c:XC X.K C)(n:Hb X.K C f)(hl:fs.length<1000)(Z:RelV y u)
 (h:∀ s',Inv X pins σ (upd H dx (xdO dx (ak7 f y fs))) s'->Q () s'):wpAny (model X.prog X.w) A (setAttr (.ref a) f u) Q E s:=by
 obtain⟨vs,sl,U,a0⟩:=exO_ok.mp (I.hok a _ e);obtain⟨mA,hn,r⟩:=xdO_ok.mp (I.hok dx _ F);refine an6 c I.kIn U hn (Z9 r) (by rw[A01,A0T];omega) n λh' O hs=>h _ ?_;have hd:∃ o,h'.get? dx=some o:=let ⟨o,_,_,e',_⟩:=O;⟨o,e'⟩;refine I.write (x:=dx) (e:=dx) (by rw[F];exact A23) (.inl rfl) (λb q Y z=>(hs.2 b Y).trans z) hd (xdO_ok.mpr ⟨_,O,λg=>?_⟩);rw[Nf]
 by_cases q:g=f
 . rw[A0K q];show RelO (some y) (if g=f then some u else mA g)
   rw[A0K q];exact Z
 rw[A0J q];show RelO _ (if g=f then some u else mA g)
 rw[A0J q];exact r g
end
def am2 (K:W.Frag)(f:Str):V->Hp->VK->Prop:=λx H1 Q=>∃ n a C dx fs v,x = .ref a/\H1 a=some (exG n a C (some dx))/\H1 dx=some (xdO dx fs)/\XC K C/\Hb K C f/\fs.lookup f=some v/\Q v H1
def ak9 (K:W.Frag)(ta:TE)(f:Str):TE:=fun σ H Q=>ta σ H λx H1=>am2 K f x H1 Q
def aB5 (K:W.Frag)(f:Str)(y:V):V->Hp->(Hp->Prop)->Prop:=λx H2 R=>∃ a C,x = .ref a/\XC K C/\Hb K C f /\
 ((H2 a=some (exO a C none)/\∀ dx,H2 dx=none->dx≠a->R (upd (upd H2 dx (xdO dx [(f,y)])) a (exO a C (some dx)))) \/
   ∃ dx fs,H2 a=some (exO a C (some dx))/\H2 dx=some (xdO dx fs)/\fs.length<1000/\R (upd H2 dx (xdO dx (ak7 f y fs))))
def ag5 (K:W.Frag)(ta tv:TE)(f:Str):TS:=λD σ H=>tv σ H λy H1=>ta σ H1 λx H2=>aB5 K f y x H2 λF=>D.nx σ F
section
variable {o e value:Expr}{f:Str}{pos' tpos:Pos}{ta tv:TE}
def af0 (he:PE X e ta)(Z:attributeBase e f X.env (eval e X.env)=eval e X.env):PE X (.Attribute e f pos) (ak9 X.K ta f):=by intro pins s σ H Q I h;refine ah9 Z (thn (he pins s σ H _ I h) λu s1 ⟨x,H1,F,rx,n',a,C,dx,fs,v,ex,U,Y,c,n,l,q⟩=>?_);subst ex;obtain rfl:u=Value.ref a:=rx;exact ai7 F U Y c n l λu' s2 O ru=>⟨v,H1,O,ru,q⟩
def al8 (ha:PE X o ta)(hv:PE X value tv)(hs:swapsWith value (some (.Attribute o f pos')) pos.line X.env=pure false):PS X (.Assign [.Attribute o f pos'] value pos) (ag5 X.K ta tv f):=by
 intro pins s σ H D I h;refine plainObj_wpAny_Assign_Attribute (thn (hv pins s σ H _ I h) λu s1 ⟨y,H1,I1,Z,q⟩=>thn (ha pins s1 σ H1 _ I1 q) λov s2 ⟨x,H2,Y,rx,a,C,ex,c,n,F⟩=>?_) hs;subst ex;obtain rfl:ov=Value.ref a:=rx;rcases F with ⟨U,F⟩|⟨dx,fs,U,ed,l,F⟩
 . exact a38 Y U c n Z λdx s3 h1 h2 O=>⟨σ,_,O,F dx h1 h2⟩
 exact a30 Y U ed c n l Z λs3 O=>⟨σ,_,O,F⟩
end
def ExB (n:Bool)(H:Hp)(a C:Addr)(fs:List (Str×V)):Prop:=(fs=[]/\H a=some (exG n a C none))\/∃ dx,dx≠a/\H a=some (exG n a C (some dx))/\H dx=some (xdO dx fs)
abbrev ExA (H:Hp)(a C:Addr)(fs:List (Str×V)):Prop:=ExB true H a C fs
def ExB.inst {n:Bool}{P:Program}{w:World}{h:Heap}{fs:List (Str×V)}(e:ExB n H a C fs)(x:HOk P w H h):∃ ox od,W.InstAt h a ox C od:=by
 rcases e with ⟨_,e⟩|⟨dx,_,e,d⟩
 . obtain⟨vs,O,q,_⟩:=exG_ok.mp (x a _ e);exact⟨_,none,q,rfl,rfl,A23⟩
 obtain⟨vs,O,q,_⟩:=exG_ok.mp (x a _ e);obtain⟨mA,hn,_⟩:=xdO_ok.mp (x dx _ d);obtain⟨o,_,_,F,_⟩:=hn;exact⟨_,some o,q,rfl,rfl,F⟩
def ExB.same {n:Bool}{H':Hp}{fs:List (Str×V)}(e:ExB n H a C fs)(s:∀ b o,H b=some o->H' b=some o):ExB n H' a C fs:=by
 rcases e with ⟨F,e⟩|⟨dx,ne,e,d⟩
 . exact .inl ⟨F,s _ _ e⟩
 exact .inr ⟨dx,ne,s _ _ e,s _ _ d⟩
def aC0 (K:W.Frag):List V->Hp->VK->Prop:=λxs H Q=>∃ n a C fs b,ExB n H a C fs/\XC K C /\
 ((∃ c,xs=[.ref a,.ref c]/\W.kitOne K (.ref C) (.ref c)=some b)\/(∃ c,xs=[.ref a,.ty c]/\W.kitOne K (.ref C) (.type c)=some b) \/
   ∃(p:Addr) (F:List Addr),xs=[.ref a,.ref p]/\H p=some (.tup (F.map V.ref))/\W.kitAny K (.ref C) (F.map Value.ref)=some b)/\Q (.bl b) H
theorem Sd:∀ {F:List Addr} {us:List Value},Vals (F.map V.ref) us->us=F.map Value.ref
 | [], us,r=>by cases us with | nil=>rfl | cons _ _=>cases r
 |c :: F,us,r=>by
   cases us with
   |nil=>cases r
   |cons u us=>
     cases r with
     |cons r1 r2=>rw[A0P,Sd r2,show u=Value.ref c from r1]
theorem a23:CallR X (.builtin "isinstance") (aC0 X.K):=by
 intro pins s σ H xs us Q I r h;obtain⟨n,a,C,fs,b,ea,c,hc,q⟩:=h;obtain⟨ox,od,J⟩:=ea.inst I.hok;rcases hc with ⟨c',rfl,e⟩|⟨c',rfl,e⟩|⟨p,cs,rfl,hp,e⟩
 . obtain⟨u,w',rfl,F,O⟩:=Sw r
   cases F;cases O;exact A1F (Y8 c) I.kIn J e (λz=>nomatch z) λtk=>⟨.bl _,H,I.tok _,rfl,q⟩
 . obtain⟨u,w',rfl,F,O⟩:=Sw r
   cases F;cases O;exact A1F (Y8 c) I.kIn J e (λz=>nomatch z) λtk=>⟨.bl _,H,I.tok _,rfl,q⟩
 obtain⟨u,w',rfl,F,O⟩:=Sw r
 cases F;cases O;obtain⟨_,a0,ri,ob,g1,U,⟨n,Y⟩,Z⟩:=(show ObjOk X.prog X.w H s.heap p (.tup (cs.map V.ref)) from I.hok p _ hp);obtain rfl:=Sd ri;obtain⟨oc,a2,a1,osl⟩:=ob;dsimp only at U Y Z;subst U Y Z;exact W.kia_tup (Y8 c) I.kIn J g1 e (λz=>nomatch z) λtk=>⟨.bl _,H,I.tok _,rfl,q⟩
def G2 {K:W.Frag}(F:X.K=K:=by ac_nf):CallR X (.builtin "isinstance") (aC0 K):=F ▸ a23
def Mkx (P:Program)(w:World)(K:W.Frag)(mg:Str->Option Value)(base:Heap)(k:Nat)(C:Addr)(x:Str)(ps:List Str)(sp:Sp):Prop:=
 ∃ f fd,FnOk P w K mg base CX0 k f fd ps sp/\XC K C/\W.findIn K (.ref C) "__init__" = some (some (.ref f))/\W.isFn K (.ref f)=true/\W.keepIn K (.ref C)=true/\mg x=some (.ref C)/\Binds K fd ps []
def a60 (K:W.Frag)(C:Addr):Bool:=match K.lookup C with
 |some ⟨_,_,.cls cd,_⟩=>W.nsOkIn K cd.ns&&W.nsIn K cd.ns "__init__" == some none
 |_=>false
structure Mkx0 (K:W.Frag)(mg:Str->Option Value)(C:Addr)(x:Str):Prop where
 xc:XC K C
 no:a60 K C=true
 kp:W.keepIn K (.ref C)=true
 gl:mg x=some (.ref C)
def aC8 (C:Addr)(sp:Sp)(vs:List V)(H1:Hp)(Q:VK):Prop:=vs.length<=8/\∀ x,H1 x=none->sp (.ref x :: vs) (upd H1 x (exO x C none)) (λv H2=>v = .non/\Q (.ref x) H2) E0
def aH6 (C:Addr) (sp:Sp) (t:TA):TE:=fun σ H Q=>t σ H λvs H1=>aC8 C sp vs H1 Q
theorem ae5 {P:Program}{w:World}{h:Heap}(x:HOk P w H h)(n:h.get? a=none):H a=none:=by
 cases q:H a with
 |none=>rfl
 |some o=>
   have t:∀ o,ObjOk P w H h a o->∃ u,h.get? a=some u:=λo z=>by
    cases o with
    |lst xs=>obtain⟨_,_,_,_,e⟩:=z;exact⟨_,e⟩
    |tup xs=>obtain⟨_,_,_,_,e,_⟩:=z;exact⟨_,e⟩
    |dK kvs=>obtain⟨_,_,_,_,o,_,_,e,_⟩:=z;exact⟨_,e⟩
    |dT kvs=>obtain⟨_,_,_,_,o,_,_,e,_⟩:=z;exact⟨_,e⟩
    |set S n=>obtain⟨o,_,_,_,e,_⟩:=z;exact⟨_,e⟩
    |ins C dx fs=>obtain⟨_,_,_,e,_⟩:=z;exact⟨_,e⟩
    |own y=>obtain⟨_,e⟩:=z;exact⟨_,e⟩
    |xd fs=>obtain⟨_,⟨_,_,_,e,_⟩,_⟩:=z;exact⟨_,e⟩
    |rng lo hi=>obtain⟨_,_,_,e⟩:=z;exact⟨_,e⟩
    |frz ob u=>obtain⟨e,_⟩:=z;exact⟨_,e⟩
    |tbl ps=>exact⟨_,z⟩
    |met f y=>exact⟨_,z⟩
    |ext φ=>obtain⟨_,e,_⟩:=z;exact e
   obtain⟨u,e⟩:=t o (x a o q);rw[n] at e;cases e
section
variable {k:Nat}{f:Addr}{fd:FuncData}{ps:List Str}{sp:Sp}{x:Str}{p:Pos}{e:Expr}{es:List Expr}{t:TA}{pins:List (Addr×Obj)}{σ:St}{s:Shared}{Q:VK}{us:List Value}{vs:List V}
theorem af6 (M:Mkx X.prog X.w X.K X.mg X.base k C x ps sp)(hr:Room (k+1) X.A)(I:Inv X pins σ H s)(r:Vals vs us)(hz:vs.length<=8)
 (h:∀ x,H x=none->sp (.ref x :: vs) (upd H x (exO x C none)) (λv H2=>v = .non/\Q (.ref x) H2) E0) :
 wpAny (model X.prog X.w) X.A (call (.ref C) us) (EP X pins σ Q) X.xe s:=by
 obtain⟨f,fd,F,c,hi,hf,hk,hm,hb⟩:=M;have Z:=h (s.heap.objs.size+1) (I.hok.fresh (A39 _));have r2:Vals (V.ref (s.heap.objs.size+1) :: vs) (Value.ref (s.heap.objs.size+1) :: us):=.cons rfl r
 have hl:((Value.ref (s.heap.objs.size+1) :: us)++[]).length=ps.length:=by have e:=r2.length;rw[F.len _ _ _ _ Z] at e;rw[A2B];exact e.symm
 have a0:((s.heap.push (ao6 us)).push (a82 C s.heap.objs.size)).get? (s.heap.objs.size+1)=some (a82 C s.heap.objs.size):=by heap_get
 have Y:Inv X pins σ (upd H (s.heap.objs.size+1) (exO (s.heap.objs.size+1) C none)) {s with heap:=(s.heap.push (ao6 us)).push (a82 C s.heap.objs.size)}:=
  I.laid (a:=s.heap.objs.size+1) (t':=s.toks) (λb u q=>A04 _ (A04 _ q)) (A39 _) (exO_ok.mpr ⟨_,_,a0,λ_=>rfl⟩)
 obtain⟨U,g,d,tk,os⟩:=s
 refine af5 I.kIn c.ex hi (A2V.mp hf) (by rw[<- r.length,A0T];omega) (A4S (A43 (F.run _ X.stack _ _ ⟨Value.ref (U.objs.size+1) :: us,[]⟩ (Value.ref (U.objs.size+1) :: us) _ _ E0 (hr.make C us [])
  (Y.env0.make C us []) (by have:=hb _ (Value.ref (U.objs.size+1) :: us) Y.kIn hl;rw[A2B] at this;exact this) r2 Z) λr s' O=>?_))
 cases r with
 |error e=>exact False.elim O
 |ok fl=>
   cases fl with
   |ret u=>obtain⟨v,H',I3,rv,ev,q3⟩:=Y.after O;subst ev;exact⟨rv,⟨V.ref (U.objs.size+1),H',I3,rfl,q3⟩⟩
   |next=>exact False.elim O
   |brk=>exact False.elim O
   |cont=>exact False.elim O
theorem Zh (M:Mkx X.prog X.w X.K X.mg X.base k C x ps sp)(hr:Room (k+1) X.A)(hg:Gl X x)(ha:PA X (e :: es) t)(Y:(x==("__debug__":Str))=false:=by decide)
 (Z:starEach (e :: es) X.env=(false,eval e X.env) :: starEach es X.env:=by ac_nf) (a0:(backTo pos (starEach es X.env)).any (·.1)=false:=by ac_nf) :
 PE X (.Call (.Name x p) (e :: es) [] pos) (aH6 C sp t):=by
 intro pins s σ H Q I h;have U:=M;obtain⟨f,fd,F,c,hi,hf,hk,hm,hb⟩:=U;refine A2X (Pn I hg hm ?_ Y);refine W.callWith_K (h₀:=X.base) I.ok.mod.kin hk (thn (ha pos pins s σ H _ I h) λus s1 ⟨vs,H1,O,r,z,q⟩=>⟨O.kIn,?_⟩) Z a0;exact af6 M hr O r z q
end
def spX (C:Addr)(fs:List Str):Sp:=λvs H Q _=>∃ a F,vs = .ref a :: F/\F.length=fs.length/\H a=some (exO a C none) /\
 ∀ dx H',H dx=none->dx≠a->(∀ b,b≠a->b≠dx->H' b=H b)->H' a=some (exO a C (some dx))->H' dx=some (xdO dx (fs.zip F))->Q .non H'
section
variable {K:W.Frag}{o e value:Expr}{f:Str}{pos':Pos}{ta tv:TE}
def Ub (U:PE X e ta)(O:attributeBase e f X.env (eval e X.env)=eval e X.env)(F:X.K=K:=by ac_nf):PE X (.Attribute e f pos) (ak9 K ta f):=F ▸ af0 U O
def Uh (ha:PE X o ta)(O:PE X value tv)(hs:swapsWith value (some (.Attribute o f pos')) pos.line X.env=pure false)(F:X.K=K:=by ac_nf):PS X (.Assign [.Attribute o f pos'] value pos) (ag5 K ta tv f):=
 F ▸ al8 ha O hs
end
section
variable {K:W.Frag}{σ:St}{Q:VK}{D:Ends}{f:Str}{ta tv:TE}{t:TA}{sp:Sp}{dx B G:Addr}{fs:List (Str×V)}{v y:V}{R:Hp->Prop}{vs:List V}
def ah1 (k:ta σ H λx H1=>am2 K f x H1 Q):ak9 K ta f σ H Q:=k
def ab2 (h:ExB n' H a C fs)(c:XC K C)(n:Hb K C f)(l:fs.lookup f=some v)(k:Q v H):am2 K f (.ref a) H Q:=by
 rcases h with ⟨rfl,_⟩|⟨dx,_,h1,h2⟩
 . cases l
 exact⟨n',a,C,dx,fs,v,rfl,h1,h2,c,n,l,k⟩
def af8 (k:tv σ H λy H1=>ta σ H1 λx H2=>aB5 K f y x H2 λF=>D.nx σ F):ag5 K ta tv f D σ H:=k
def as0 (h:H a=some (exO a C none))(c:XC K C)(n:Hb K C f)(k:∀ dx H',H dx=none->dx≠a->(∀ b,b≠a->b≠dx->H' b=H b)->H' a=some (exO a C (some dx))->H' dx=some (xdO dx [(f,y)])->R H'):aB5 K f y (.ref a) H R:=
 ⟨a,C,rfl,c,n,.inl ⟨h,λdx h1 h2=>k dx _ h1 h2 (λb F hd=>by rw[Ay F,Ay hd]) Aj (by rw[Ay h2,Aj])⟩⟩
def ax4 (h:H a=some (exO a C (some dx)))(hd:H dx=some (xdO dx fs))(c:XC K C)(n:Hb K C f)(hl:fs.length<1000)(k:∀ H',(∀ b,b≠dx->H' b=H b)->H' dx=some (xdO dx (ak7 f y fs))->R H'):aB5 K f y (.ref a) H R:=
 ⟨a,C,rfl,c,n,.inr ⟨dx,fs,h,hd,hl,k _ (λb F=>Ay F) Aj⟩⟩
def au3 (k:t σ H λvs H1=>aC8 C sp vs H1 Q):aH6 C sp t σ H Q:=k
def ak1 {F:List Str}(hl:vs.length=F.length)(hz:F.length<=8)(k:∀ x H',H x=none->Same H H'->ExA H' x C (F.zip vs)->Q (.ref x) H'):aC8 C (spX C F) vs H Q:=by refine⟨by omega,λx U=>⟨x,vs,rfl,hl,Aj,λdx H' h1 h2 Y Z h5=>⟨rfl,k x H' U (λb u q=>?_) (.inr ⟨dx,h2,Z,h5⟩)⟩⟩⟩;have O:b≠x:=ne_of_none q U;rw[Ay h2] at h1;rw[Y b O (ne_of_none q h1),Ay O];exact q
def a13 (h:ExB n' H a C fs)(c:XC K C)(e:W.kitOne K (.ref C) (.ref G)=some b)(k:Q (.bl b) H):aC0 K [.ref a,.ref G] H Q:=⟨n',a,C,fs,b,h,c,.inl ⟨G,rfl,e⟩,k⟩
def az5 {T:String}(h:ExB n' H a C fs)(c:XC K C)(e:W.kitOne K (.ref C) (.type T)=some b)(k:Q (.bl b) H):aC0 K [.ref a,.ty T] H Q:=⟨n',a,C,fs,b,h,c,.inr (.inl ⟨T,rfl,e⟩),k⟩
end
def am0 {K:W.Frag}{B:Addr}(hm:Nz K C B=true):W.kitOne K (.ref C) (.type "ValueError")=some true:=by obtain⟨cd,F,O⟩:=W.any_some hm;unfold W.kitOne;rw[A0J (by rw[A11.mpr (by intro q;cases q)];decide)];unfold W.kitCls;dsimp only;rw[A0K (by decide +kernel)];show W.mroIn K C _=_;unfold W.mroIn;rw[F,Option.bind_some,beq_iff_eq.mp O,if_neg (by simp),List.contains_cons,List.contains_cons,show xB.contains (Value.type "ValueError")=true by decide +kernel,Bool.or_true,Bool.or_true]
structure Lft (fs:List Addr)(a:Addr)(oe:Obj)(old:List Addr)(h h':Heap):Prop where
 keep:∀ b o,b∉fs->b≠a->b∉old->h.get? b=some o->h'.get? b=some o
 slot:∀ b o,b∈fs->h.get? b=some o->∃ sl,h'.get? b=some {o with slots:=sl}
 there:∀ b o,h.get? b=some o->∃ o',h'.get? b=some o'
 tr:∃ oe' vs T oT ts,h'.get? a=some oe'/\oe'.cls=oe.cls/\oe'.dict=oe.dict/\oe'.slots=oe.slots/\oe'.data = .fields vs/\vs[1]? = some (.ref T)/\T≠a/\h.get? T=none/\h'.get? T=some oT/\oT.data = .fields ts/\ts[3]? = some .none
section
variable {M:Model}{A:Around}{s:Shared}{base:Heap}{env:Env}{outer:List Env}{L:Addr}{oe:Obj}{vs:Array Value}
def Zv (o:Obj)(g:Array Value->Array Value):(o.mapFields g).dict=o.dict/\(o.mapFields g).slots=o.slots/\(o.mapFields g).cls=o.cls:=by
 obtain⟨c,d,F,O⟩:=o
 cases F<;>exact⟨rfl,rfl,rfl⟩
theorem U9 {a1:Value}{a8:Bool}(aB:A.frames=some (env :: outer))(hl:s.heap.FunFrames base (env :: outer))(hf:env.frame=some L)(he:s.heap.get? a=some oe)(hd:oe.data = .fields vs)(hsz:1<vs.size)
 (h:∀ h',Lft (frs (env :: outer)) a oe [] s.heap h'->Q () {s with heap:=h'}) :
 wpAny M A (do let x <- frameOf env;let O <- entryPlaceOf L a8;let b <- EntryCells.newEntry a1 x .none (rawInt L) .none O;setField (.ref a) 1 b) (λ_ s'=>wpAny M A (setFlight (.ref a) none) Q E s') E s:=by
 have ha:a∉frs (env :: outer):=λhm=>by obtain⟨_,o,ho,aC⟩:=hl.mem hm;rw[he] at ho;cases ho;exact aC vs hd
 refine A02 (wpAny_frameOf_fun aB hl hf λh1 U=>?_);refine A02 (wpAny_entryPlaceOf λO a7=>?_);unfold EntryCells.newEntry newFields;refine A02 (A2J ?_ (a7.sizeOk5 _ _ _ _ _));generalize aD:(Obj.mk (Value.type "traceback") none (Data.fields ([a1,Value.ref L,Value.none,rawInt L,Value.none]++(if O.isEmpty then List.replicate 6 Value.none else O)).toArray) #[]:Obj)=ob
 have Y:ob.data = .fields ([a1,Value.ref L,Value.none,rawInt L,Value.none]++(if O.isEmpty then List.replicate 6 Value.none else O)).toArray:=by rw[<- aD]
 have aE:ob.isFreed=false:=A3S Y;have a3:h1.get? a=some oe:=(U.2.1 a ha).trans he;have a4:=A04 (h:=h1) ob a3;refine wpAny_setField a4 hd hsz ?_;have a0:h1.objs.size≠a:=A2O (A09 a3);have Z:=A46 hd (·.setIfInBounds 1 (Value.ref h1.objs.size));have a5:=A3R (Obj.mapFields (·.setIfInBounds 1 (Value.ref h1.objs.size))) a4 (A3S Z);have a2:=(A20 (h1.push ob) (Obj.mapFields (·.setIfInBounds 1 (Value.ref h1.objs.size))) (Ne.symm a0)).trans (A0F h1 aE);unfold setFlight;refine wpAny_bind (wpAny_field a5 Z (x:=.ref h1.objs.size) (by simp[hsz]) ?_);rw[if_pos (show(Value.ref h1.objs.size != Value.none)=true from by simp)];refine wpAny_setField a2 Y (by simp only[List.size_toArray,List.length_append,List.length_cons,List.length_nil]<;>omega) (h _ ?_)
 have kp:∀ b o,b≠a->h1.get? b=some o->(((h1.push ob).update a (Obj.mapFields (·.setIfInBounds 1 (Value.ref h1.objs.size)))).update h1.objs.size (Obj.mapFields (·.setIfInBounds 3 ((none:Option Addr).elim Value.none λf=>rawInt f)))).get? b=some o:=λb o aA F=>by rw[A20 _ _ (A2O (A09 F)),A20 _ _ (Ne.symm aA)];exact A04 _ F
 have a6:=(A20 _ (Obj.mapFields (·.setIfInBounds 3 ((none:Option Addr).elim Value.none λf=>rawInt f))) a0).trans a5;refine⟨λb o F a9 _ q=>kp b o a9 ((U.2.1 b F).trans q),λb o F q=>?_,λb o q=>?_,?_⟩
 . obtain⟨sl,z⟩:=U.2.2 b o q;exact⟨sl,kp b _ (λw=>ha (w ▸ F)) z⟩
 . by_cases w:b=a
   . subst w;exact⟨_,a6⟩
   obtain⟨sl,z⟩:=U.2.2 b o q;exact⟨_,kp b _ w z⟩
 obtain⟨m1,m2,m3⟩:=Zv oe (·.setIfInBounds 1 (Value.ref h1.objs.size));refine⟨_,_,h1.objs.size,_,_,a6,m3,m1,m2,Z,by simp[hsz],a0,Heap.get?_none_of_le (by rw[U.1];exact Nat.le_refl _),Heap.get?_update_self _ a2 (Obj.isFreed_of_fields (Obj.data_mapFields Y _)),Obj.data_mapFields Y _,?_⟩;rcases a7 with rfl|⟨_,_,_,_,_,_,_,rfl⟩<;>simp
def a21 (O:A.frames=some (env :: outer))(hl:s.heap.FunFrames base (env :: outer))(hf:env.frame=some L)(F:s.heap.get? a=some oe)(hd:oe.data = .fields vs)(h1:vs[1]? = some .none)
 (h:∀ h',Lft (frs (env :: outer)) a oe [] s.heap h'->Q () {s with heap:=h'}):wpAny M A (leaving env (.ref a)) Q E s:=by
 unfold leaving noteFrame;simp only[hf];refine A02 (A02 (A1E F hd h1 ?_));rw[A0J ∅];exact U9 O hl hf F hd (A2D.mp h1).1 h
theorem a17 {T:Addr}{oT:Obj}{ts:Array Value}(a3:A.frames=some (env :: outer))(hl:s.heap.FunFrames base (env :: outer))(hf:env.frame=some L)(he:s.heap.get? a=some oe)(hd:oe.data = .fields vs)(h1:vs[1]? = some (.ref T))
 (a0:T≠a) (U:s.heap.get? T=some oT) (Y:oT.data = .fields ts) (h3:ts[3]? = some .none)
 (h:∀ h',Lft (frs (env :: outer)) a oe [T] s.heap h'->Q () {s with heap:=h'}):wpAny M A (noteFrame (.ref a) env) (λ_ s'=>wpAny M A (setFlight (.ref a) none) Q E s') E s:=by
 unfold noteFrame;simp only[hf];refine A02 (A1E he hd h1 ?_);rw[if_pos (show(Value.ref T != Value.none)=true from by simp)];refine A02 (A1E U Y h3 ?_);rw[if_neg (show ¬ ((Value.none==rawInt L)=true) from by simp[rawInt])];refine A02 (wpAny_setField U Y (A2D.mp h3).1 ?_);have ot:∀ b,b≠T->(s.heap.update T (Obj.mapFields (·.setIfInBounds 3 Value.none))).get? b=s.heap.get? b:=λb F=>A20 _ _ (Ne.symm F);have tt:=A3R (Obj.mapFields (·.setIfInBounds 3 Value.none)) U (A3S (A46 Y _))
 have nT:∀ b o,s.heap.get? b=some o->(∀ us,o.data ≠ .fields us)->b≠T:=λb o F O q=>by rw[q,U] at F;cases F;exact O ts Y
 have fT:T∉frs (env :: outer):=λhm=>by obtain⟨_,o,ho,O⟩:=hl.mem hm;exact nT T o ho O rfl
 refine U9 (hl:=hl.of_keeps λb o F O=>⟨o,(ot b (nT b o F O)).trans F,rfl⟩) a3 hf ((ot a (Ne.symm a0)).trans he) hd (A2D.mp h1).1 λh' l=>h h' ?_;obtain⟨x1,x2,x3,a5,us,Z,a4,a6,q1,q2,q3,q4,q5,q6,q7,q8,q9⟩:=l;refine⟨λb o F a1 a2 q=>x1 b o F a1 (by simp) ((ot b λz=>a2 (by simp[z])).trans q),λb o F q=>x2 b o F ((ot b λz=>fT (z ▸ F)).trans q),λb o q=>?_,a5,us,Z,a4,a6,q1,q2,q3,q4,q5,q6,q7,?_,q9⟩
 . by_cases z:b=T
   . subst z;exact x3 _ _ tt
   exact x3 b o ((ot b z).trans q)
 by_cases z:Z=T
 . rw[z,tt] at q8;cases q8
 rw[<- ot Z z];exact q8
end
def Tra (a:Addr)(H':Hp)(O h:Heap):Prop:=∃ oe vs T F ts,h.get? a=some oe/\oe.data = .fields vs/\vs[1]? = some (.ref T)/\T≠a/\h.get? T=some F/\F.data = .fields ts/\ts[3]? = some .none/\H' T=none/\O.get? T=none
def CX1 (P:Program)(w:World):CXT:=λouter H s E e s'=>∃ a C od H',e = .ref a/\s'.os=s.os/\AllBare s'.gens/\Un (frs outer) [] H H' s.heap s'.heap/\HOk P w H' s'.heap/\H' a=some (exG false a C od)/\s.heap.get? a=none/\Tra a H' s.heap s'.heap/\E (.ref a) none H'
section
variable {P:Program}{w:World}{fs:List Addr}{od:Option Addr}{oe:Obj}{old:List Addr}{h h':Heap}{n:Bool}
theorem Lft.hok (l:Lft fs a oe old h h')(ok:HOk P w H h)(he:h.get? a=some oe)(ha:H a=some (exG n a C od))(a1:∀ b∈fs,H b=none)(a2:∀ b∈old,H b=none):HOk P w (upd H a (exG false a C od)) h':=λb u q=>by
 have hu:∀ c z,H c=some z->c≠a->upd H a (exG false a C od) c=some z:=λc z r ne=>by rw[Ay ne];exact r
 by_cases O:b=a
 . subst O;rw[Aj] at q;cases q;obtain⟨vs,sl,U,_⟩:=exG_ok.mp (ok b _ ha);rw[he] at U;cases U;obtain⟨a3,us,T,oT,ts,q1,Y,Z,q4,q5,_⟩:=l.tr;obtain⟨c,d,dt,s4⟩:=a3;dsimp only at Y Z q4 q5;subst Y Z q4 q5;exact exG_ok.mpr ⟨us,_,q1,λz=>Bool.noConfusion z⟩
 rw[Ay O] at q;refine(ok b u q).stay (λc v F r=>?_) (λc r=>hu c _ r λz=>?_) λc xs r=>hu c _ r λz=>?_
 . have a0:∃ z,H c=some z:=by
    rcases F with F|F
    . exact⟨u,F ▸ q⟩
    exact⟨_,F⟩
   obtain⟨z,hz⟩:=a0;refine l.keep c v (λm=>by rw[a1 c m] at hz;cases hz) (λe=>?_) (λm=>by rw[a2 c m] at hz;cases hz) r;subst e;rcases F with F|F
   . exact O F.symm
   rw[ha] at F;cases F
 . rw[z,ha] at r;cases r
 rw[z,ha] at r;cases r
end
section
variable {P:Program}{w:World}{K:W.Frag}{mg:Str->Option Value}{base:Heap}{N:List Str}{qual:Str}{scope:Scope}{f:Addr}{cd:Value}{A:Around}{outer:List Env}{s₀:Shared}{H₀:Hp}{E:XK}
theorem a92 {h h':Heap}:∀ {l:List Env},h.FunFrames base l->(∀ b∈frs l,∀ o,h.get? b=some o->∃ F,h'.get? b=some {o with slots:=F})->h'.FunFrames base l
 | [],_,_=>A23
 |env :: r,hl,k=>by
   obtain⟨U,⟨L,o,hf,hn,Y,hd⟩,Z⟩:=hl;have e:frs (env :: r)=L :: frs r:=by unfold frs;rw[List.filterMap_cons,hf]
   obtain⟨F,z⟩:=k L (by rw[e];exact A16) o Y;exact⟨U,⟨L,_,hf,hn,z,hd⟩,a92 Z λb O=>k b (by rw[e];exact A0I _ O)⟩
theorem aF2 {CX:CXT}{pins:List (Addr×Obj)}{σ:St}{H1 H2:Hp}{s1 Z:Shared}{h3:Heap}{od:Option Addr}{oe:Obj}{old:List Addr}{n:Bool}(I:Inv (a15 CX P w K mg base N qual scope f cd A outer s₀ H₀ E) pins σ H1 s1)
 (os:Z.os=s1.os) (bare:AllBare Z.gens) (un:Un (frs (envOfC qual scope s₀.heap.objs.size f cd :: outer)) [] H1 H2 s1.heap Z.heap) (ok:HOk P w H2 Z.heap) (ha:H2 a=some (exG n a C od)) (he:Z.heap.get? a=some oe) (hn:s₀.heap.get? a=none) (a1:∀ b∈old,H2 b=none/\s₀.heap.get? b=none)
 (l:Lft (frs (envOfC qual scope s₀.heap.objs.size f cd :: outer)) a oe old Z.heap h3) (q:E (.ref a) none (upd H2 a (exG false a C od))) :
 CX1 P w outer H₀ s₀ E (.ref a) {Z with heap:=h3}:=by
 have stk:∀ b∈frs (envOfC qual scope s₀.heap.objs.size f cd :: outer),b=s₀.heap.objs.size\/b∈frs outer:=λb O=>by
  rcases A0G.mp (I.stkSub b O) with z|z
  . exact .inl z
  exact .inr z
 have a2:∀ b∈frs (envOfC qual scope s₀.heap.objs.size f cd :: outer),H2 b=none:=λb O=>by obtain⟨_,o,ho,_⟩:=I.stack.mem O;exact un.free b o ho (I.stkFree b O) (by simp)
 obtain⟨a3,us,T,oT,ts,q1,q2,q3,q4,q5,q6,q7,q8,q9,a4,a5⟩:=l.tr;have nl:∀ b o,s₀.heap.get? b=some o->b≠s₀.heap.objs.size:=λb o z=>A0N (A09 z);have na:∀ b o,s₀.heap.get? b=some o->b≠a:=λb o z e=>by rw[e,hn] at z;cases z
 have no:∀ b o,s₀.heap.get? b=some o->b∉old:=λb o z e=>by rw[(a1 b e).2] at z;cases z
 have tn:H2 T=none:=ae5 ok q8
 have t0:s₀.heap.get? T=none:=by
  cases z:s₀.heap.get? T with
  |none=>rfl
  |some o=>obtain⟨o1,F⟩:=I.base.there T o z (by intro m;cases m);obtain⟨o2,U⟩:=un.there T o1 F (by simp);rw[q8] at U;cases U
 have hu:∀ c z,H2 c=some z->z≠exG n a C od->upd H2 a (exG false a C od) c=some z:=λc z r ne=>by rw[Ay λe=>ne (by rw[e,ha] at r;exact(A10 r).symm)];exact r
 refine⟨a,C,od,upd H2 a (exG false a C od),rfl,os.trans I.os,bare,⟨λb o z Y O _=>?_,λb o z Y O _=>?_,λb o z Y _=>?_,λb o z _=>?_,λb xs z=>?_,λb o u z=>?_,λb ps z=>?_⟩,l.hok ok he ha a2 (λb m=>(a1 b m).1),Aj,hn,⟨a3,us,T,oT,ts,q1,q5,q6,q7,q9,a4,a5,by rw[Ay q7];exact tn,t0⟩,q⟩
 . have F:=I.base.keep b o z Y O (by intro m;cases m);have n1:=I.base.free b o z Y (by intro m;cases m);have a0:b∉frs (envOfC qual scope s₀.heap.objs.size f cd :: outer):=λm=>(stk b m).elim (nl b o z) O;exact l.keep b o a0 (na b o z) (no b o z) (un.keep b o F n1 a0 (by simp))
 . obtain⟨sl,F⟩:=I.base.slot b o z Y O (by intro m;cases m);have n1:=I.base.free b o z Y (by intro m;cases m);obtain⟨a6,U⟩:=un.any F n1 (by simp)
   by_cases m:b∈frs (envOfC qual scope s₀.heap.objs.size f cd :: outer)
   . obtain⟨a7,z3⟩:=l.slot b _ m U;exact⟨a7,z3⟩
   exact⟨a6,l.keep b _ m (na b o z) (no b o z) U⟩
 . obtain⟨o1,F⟩:=I.base.there b o z (by intro m;cases m);have n1:=I.base.free b o z Y (by intro m;cases m);show upd H2 a _ b=none;rw[Ay (na b o z)];exact un.free b o1 F n1 (by simp)
 . obtain⟨o1,F⟩:=I.base.there b o z (by intro m;cases m);obtain⟨o2,U⟩:=un.there b o1 F (by simp);exact l.there b o2 U
 . exact hu b _ (un.tups b xs (I.base.tups b xs z)) (λe=>nomatch e)
 . exact hu b _ (un.frzs b o u (I.base.frzs b o u z)) (λe=>nomatch e)
 obtain⟨m1,F⟩:=I.base.tbls b ps z;obtain⟨m2,U⟩:=un.tbls b _ F;exact⟨m1++m2,by rw[<- Array.append_assoc];exact hu b _ U (λe=>nomatch e)⟩
def a48 {o:HO}(h:H a=some o):upd H a o=H:=by
 funext b;unfold upd
 split
 . rename_i e;rw[e,h]
 rfl
def Xb (K:W.Frag)(H0:Hp)(E:XK)(x:V)(H1:Hp):Prop:=∃ a C od,x = .ref a/\H1 a=some (exO a C od)/\XC K C/\H0 a=none/\E (.ref a) none (upd H1 a (exG false a C od))
def ad2 (K:W.Frag)(H0:Hp)(E:XK)(t:TE):TS:=λD σ H=>t σ H λx H1=>Xb K H0 E x H1
theorem Pc {ex:Expr}{t:TE}(hX:X=a15 (CX1 P w) P w K mg base N qual scope f cd A outer s₀ H₀ E)(he:PE X ex t):PS X (.Raise (some ex) none pos) (ad2 K H₀ E t):=by
 subst hX;intro pins s σ H D I h;rw[arm_exec_Raise];refine A02 (A59 ?_);unfold raiseStmt;simp only[evalOpt,Option.map];refine A02 (A02 (thn (he pins s σ H _ I h) λv Z ⟨x,H1,F,rx,a,C,od,ex',ha,hc,h0,q⟩=>A02 (A59 (A07 ?_))));subst ex';obtain rfl:v=Value.ref a:=rx;obtain⟨vs,sl,U,O⟩:=exO_ok.mp (F.hok a _ ha);have O:=O rfl;obtain⟨nm,qn,N',bs,bm,sn,sub,ab,a4,dd,k0,k1,k2,k3,k5,hl,a3⟩:=Lu hc.ex;have Y:=F.kIn _ _ hl;have a1:(Value.ref C :: bm).contains (.type "BaseException")=true:=by rw[A3I,a87 (A3H F.kIn a3),Bool.or_true]
 have a0:(a15 (CX1 P w) P w K mg base N qual scope f cd A outer s₀ H₀ E).xe (.ref a) Z:=by
  refine a21 (base:=base) (L:=s₀.heap.objs.size) F.ok.frames F.stack rfl U rfl O λh3 l=>?_
  have a2:s₀.heap.get? a=none:=by
   cases z:s₀.heap.get? a with
   |none=>rfl
   |some o=>have:=F.base.free a o z h0 (by intro m;cases m);rw[ha] at this;cases this
  exact aF2 F rfl F.bare Un.refl F.hok ha U a2 (by simp) l q
 obtain⟨hh,g,d,tk,os⟩:=Z
 repeat (first | (with_reducible refine A2L U ?_) | (with_reducible refine A2L Y ?_) | (with_reducible refine A54 Y ?_;rw[a1]) | (with_reducible refine A1E U rfl O ?_) | wp_step)
 exact wpAny_raiseNew_none (F.ok.hd rfl) a0
end
section
variable {pins:List (Addr×Obj)}{σ:St}{s:Shared}
theorem Q1 {M:Model}{A:Around}{x:Str}(I:Inv X pins σ H s)(hN:X.N.Nodup)(hi:X.N[i]? = some x)(Y:X.env.scope.names.lookup x=some .local)
 (h:∀ s',Inv X pins (σ.set i none) H s'->Q () s'):wpAny M A (do bindName X.env x .none;unbindBehindTheSuite X.env x pos) Q E s:=by
 refine A02 (wpAny_bindName (Me (v:=.non) (u:=.none) I hN hi (.inl Y) rfl (λs1 F=>?_) (.inr Y)));unfold unbindBehindTheSuite;refine A3Y ?_;obtain⟨m,hn,hl⟩:=id F.loc;have a1:(X.env.scope.kind == .class||(X.env.scope.kind == .module&&X.env.locals != X.env.globals))=false:=by rw[F.ok.kind];rfl
 have a0:i<σ.length:=by rw[I.len];exact(A03.mp hi).1
 obtain⟨u,ru,lu⟩:=hl i x .non hi (A2W a0) (.inl Y)
 have a2:m x=some u:=by
  rcases lu with ⟨_,z⟩|⟨z,_⟩
  . exact z
  have z':X.env.scope.names.lookup x=some .cell\/X.env.scope.names.lookup x=some .free:=z;rw[Y] at z';rcases z' with z'|z'<;>cases z'
 refine wpAny_unbindName_local Y hn a2 a1 λh' w a3 hs=>h _ ?_;obtain⟨oL,_,_,a4,_⟩:=id hn;have cne:=F.cne;refine⟨F.ok,F.os,F.bare,⟨λb o e n hb Z=>?_,λb o e n hb Z=>?_,F.base.free,λb o e Z=>?_,F.base.tups,F.base.frzs,F.base.tbls⟩,⟨_,a3,λj y v' O e2 e3=>?_⟩,λy c e=>?_,F.free,F.freeC,λp hp=>?_,λb ob e=>?_,by simpa using I.len⟩
 . exact(hs.2 b (A0N (A0Y (A09 e) F.ok.above))).trans (F.base.keep b o e n hb Z)
 . obtain⟨sl,O⟩:=F.base.slot b o e n hb Z;exact⟨sl,(hs.2 b (A0N (A0Y (A09 e) F.ok.above))).trans O⟩
 . obtain⟨o',O⟩:=F.base.there b o e Z;exact⟨o',(hs.2 b (A0N (A0Y (A09 e) F.ok.above))).trans O⟩
 . by_cases hj:j=i
   . subst hj;rw[A2W a0] at e2
     cases e2
   rw[A1X (Ne.symm hj)] at e2;obtain⟨u',r',q⟩:=hl j y v' O (by rw[A1X (Ne.symm hj)];exact e2) e3;refine⟨u',r',?_⟩;rcases q with ⟨k,e⟩|⟨k,c,e,z⟩
   . refine .inl ⟨k,?_⟩;have ne:y≠x:=λe=>hj (Pz hN O (e ▸ hi));simp[ne,e]
   exact .inr ⟨k,c,e,z.sameBut hs (cne y c e)⟩
 . obtain⟨w',z⟩:=F.cell y c e;exact⟨w',z.sameBut hs (cne y c e)⟩
 . obtain⟨e,n,ne,nf,d⟩:=F.pin p hp;exact⟨(hs.2 p.1 ne).trans e,n,ne,nf,d⟩
 refine(F.hok b ob e).stay (λc w' U q=>(hs.2 c ?_).trans q) (λ_ q=>q) λ_ _ q=>q;rintro rfl;rcases U with U|U
 . rw[<- U] at e;rw[F.free] at e;cases e
 rw[F.free] at U;cases U
abbrev Cx.tri (X:Cx)(pins:List (Addr×Obj))(E:Value->Shared->Prop):Cx:={X with xe:=E,pn:=X.pn++pins}
abbrev Cx.hnd (X:Cx)(a:Addr)(E:Value->Shared->Prop):Cx:={X with A:=X.A.mark (some (.ref a)),calm:=false,xe:=E}
theorem Inv.tri (I:Inv X pins σ H s)(E:Value->Shared->Prop):Inv (X.tri pins E) [] σ H s:=
 ⟨⟨I.ok.mod,I.ok.kind,I.ok.glob,I.ok.blt,I.ok.above,I.ok.inj,I.ok.has,I.ok.cab,I.ok.hd,I.ok.frames,I.ok.stk,I.ok.exf,I.ok.bs,I.ok.bsz,I.ok.noex,I.ok.exfs,I.ok.funs,I.ok.frf⟩,I.os,I.bare,I.base,I.loc,I.cell,I.free,I.freeC,λp F=>I.pin p (by simpa using F),I.hok,I.len⟩
def Inv.untri {more:List (Addr×Obj)}(I:Inv (X.tri pins E) more σ H s):Inv X pins σ H s:=
 ⟨⟨I.ok.mod,I.ok.kind,I.ok.glob,I.ok.blt,I.ok.above,I.ok.inj,I.ok.has,I.ok.cab,I.ok.hd,I.ok.frames,I.ok.stk,I.ok.exf,I.ok.bs,I.ok.bsz,I.ok.noex,I.ok.exfs,I.ok.funs,I.ok.frf⟩,I.os,I.bare,I.base,I.loc,I.cell,I.free,I.freeC,λp F=>I.pin p (A3V _ F),I.hok,I.len⟩
theorem Inv.hnd (I:Inv X pins σ H s)(a:Addr)(E:Value->Shared->Prop):Inv (X.hnd a E) pins σ H s:=
 ⟨⟨I.ok.mod,I.ok.kind,I.ok.glob,I.ok.blt,I.ok.above,I.ok.inj,I.ok.has,I.ok.cab,λz=>Bool.noConfusion z,I.ok.frames,I.ok.stk,I.ok.exf,I.ok.bs,I.ok.bsz,I.ok.noex,I.ok.exfs,I.ok.funs,I.ok.frf⟩,I.os,I.bare,I.base,I.loc,I.cell,I.free,I.freeC,I.pin,I.hok,I.len⟩
def Inv.unhnd (hd:X.calm=true->X.A.handled=none)(I:Inv (X.hnd a E) pins σ H s):Inv X pins σ H s:=
 ⟨⟨I.ok.mod,I.ok.kind,I.ok.glob,I.ok.blt,I.ok.above,I.ok.inj,I.ok.has,I.ok.cab,hd,I.ok.frames,I.ok.stk,I.ok.exf,I.ok.bs,I.ok.bsz,I.ok.noex,I.ok.exfs,I.ok.funs,I.ok.frf⟩,I.os,I.bare,I.base,I.loc,I.cell,I.free,I.freeC,I.pin,I.hok,I.len⟩
end
section
variable {M:Model}{A:Around}{s:Shared}{K:W.Frag}{B:Addr}{oe:Obj}{Q:Bool->Shared->Prop}
theorem a29 (X:K.In s.heap)(c:XC K C)(b:XC K B)(hm:W.mroIn K C (.ref B)=some true)(Z:s.heap.get? a=some oe)(U:oe.cls = .ref C)(hq:Q true s):wpAny M A (excMatches (.ref a) (.ref B)) Q E s:=by
 obtain⟨nm,qn,N,bs,O,sn,sub,ab,a1,dd,k0,k1,k2,k3,k5,hl,a0⟩:=Lu b.ex;have F:=X _ _ hl;have Y:(Value.ref B :: O).contains (.type "BaseException")=true:=by rw[A3I,a87 (A3H X a0),Bool.or_true]
 have f:=tc_notTuple;have l1:W.Looks M s.heap (isSubtype (.ref C) (.ref B)) true:=A55 X hm;obtain⟨h,g,d,t,os⟩:=s;unfold excMatches
 repeat (first | (with_reducible refine A2L Z ?_;rw[U]) | (with_reducible refine A2L F ?_) | (with_reducible refine A54 F ?_;rw[Y]) | (with_reducible refine l1.at ?_) | wp_step)
 exact hq
end
def tryE (G:Addr->Hp->Prop):XK:=λv _ H'=>∃ a,v = .ref a/\G a H'
def sTry (K:W.Frag)(len i:Nat)(B:Addr)(G:Addr->Hp->Prop)(tb th:TS):TS:=λD σ H=>tb D σ H/\∀(a:Addr) (H':Hp) (σ':St),σ'.length=len->G a H' ->
 (∃ C od,H' a=some (exG false a C od)/\XC K C/\W.mroIn K C (.ref B)=some true) /\
  th {nx:=fun σ2 H2=>D.nx (σ2.set i none) H2,rt:=D.rt,bk:=fun σ2 H2=>D.bk (σ2.set i none) H2,ct:=fun σ2 H2=>D.ct (σ2.set i none) H2} (σ'.set i (some (.ref a))) H'
section
variable {pins:List (Addr×Obj)}
theorem SP.untri {D:Ends}{f:Flow}{s':Shared}(h:SP (X.tri pins E) [] D f s'):SP X pins D f s':=by
 cases f with
 |next=>obtain⟨σ',H',I,q⟩:=h;exact⟨σ',H',I.untri,q⟩
 |brk=>obtain⟨σ',H',I,q⟩:=h;exact⟨σ',H',I.untri,q⟩
 |cont=>obtain⟨σ',H',I,q⟩:=h;exact⟨σ',H',I.untri,q⟩
 |ret u=>obtain⟨v,σ',H',I,r,q⟩:=h;exact⟨v,σ',H',I.untri,r,q⟩
def ak8 {ts:Array Value}(h:ts[3]? = some .none):ts.setIfInBounds 3 .none=ts:=by
 obtain⟨h1,h2⟩:=A2D.mp h;refine Array.ext (by simp) λj F O=>?_;rw[Array.getElem_setIfInBounds]
 split
 . rename_i e;subst e;exact h2.symm
 rfl
theorem as7 {body a6:List Stmt}{b0:Stmt}{tb th:TS}{n bx:Str}{B:Addr}{p1 p2:Pos}(G:Addr->Hp->Prop)(hN:X.N.Nodup)(hi:X.N[i]? = some n)(hk:X.env.scope.names.lookup n=some .local)(hg:Gl X bx)(hm:X.mg bx=some (.ref B))(hB:XC X.K B)
 (a4:X.stack=X.env :: X.outer) (hf:X.env.frame=some X.env.locals) (aI:X.ex=[])
 (F:∀ ps xe,Qw (CX1 X.prog X.w) (X.tri ps xe) (tryE G)->PSs (X.tri ps xe) body tb) (hs:∀ a xe,PSs (X.hnd a xe) (b0 :: a6) th) (hd:(bx==("__debug__":Str))=false:=by decide) :
 PS X (.Try body [.ExceptHandler (some (.Name bx p1)) (some n) (b0 :: a6) p2] [] [] pos) (sTry X.K X.N.length i B G tb th):=by
 intro pins s σ H D I h;refine wpAny_Try_except ?_;refine A22 (F pins _ ?_ [] s σ H D (I.tri _) h.1) (λf s1 a1=>?_) λe s1 he=>he
 . intro aL σ2 H2 s2 e Z I2 hq;obtain⟨a,C',aJ,U,rfl,os,bare,un,ok,aH,hn,⟨oe,vs,T,oT,ts,t1,t2,t3,t4,t5,t6,t7,t8,t9⟩,a',ea,q⟩:=hq
   cases ea;have J2:Inv X pins σ2 H2 s2:=I2.untri;obtain⟨⟨C,od,ha,hc,aB⟩,q3⟩:=h.2 a U σ2 (by rw[J2.len]) q;have O:Un (frs X.stack) [] H2 U s2.heap Z.heap:=un
   have a9:Z.heap.FunFrames X.base (X.env :: X.outer):=by have:=a92 (h':=Z.heap) J2.stack λb F o ho=>O.any ho (J2.stkFree b F) (by simp);rwa[a4] at this
   have a8:∀ b∈frs X.stack,U b=none:=λb F=>by obtain⟨_,o,ho,_⟩:=J2.stack.mem F;exact O.free b o ho (J2.stkFree b F) (by simp)
   refine a17 (base:=X.base) (L:=X.env.locals) (by have:=J2.ok.frames;rwa[a4] at this) a9 hf t1 t2 t3 t4 t5 t6 t7 λY l=>?_;rw[<- a4] at l
   have ok4:HOk X.prog X.w U Y:=by have:=l.hok ok t1 ha a8 (λb F=>by simp at F;subst F;exact t8);rwa[a48 ha] at this
   have aF:Un (frs X.stack) [] H2 U s2.heap Y:=by
    have na:∀ b o,s2.heap.get? b=some o->b≠a:=λb o z e=>by rw[e,hn] at z;cases z
    have nT:∀ b o,s2.heap.get? b=some o->b∉[T]:=λb o z e=>by simp at e;rw[e,t9] at z;cases z
    refine⟨λb o z nz F hx=>l.keep b o F (na b o z) (nT b o z) (O.keep b o z nz F hx),λb o z nz F hx=>?_,O.free,λb o z hx=>?_,O.tups,O.frzs,O.tbls⟩
    . obtain⟨sl,z1⟩:=O.slot b o z nz F hx;obtain⟨aE,z2⟩:=l.slot b _ F z1;exact⟨aE,z2⟩
    obtain⟨o1,z1⟩:=O.there b o z hx;exact l.there b o1 z1
   have I4:Inv X pins σ2 U {Z with heap:=Y}:=J2.call' (s':={Z with heap:=Y}) (ch:=[]) os aF ok4 bare (λb z=>absurd z (by simp))
   obtain⟨us,aN,aA,_⟩:=exG_ok.mp (ok4 a _ ha);obtain⟨aK,aO,T',aC,a7,q1,q2,aM,q4,q5,q6,q7,q8,q9,a3,a5⟩:=l.tr;have a2:X.calm=true->X.A.handled=none:=I.ok.hd;refine wpAny_handleBy_cons (codeAny_handlers_test ?_) (by intro q;cases q);refine Pn (X:=X.hnd a λ_ _=>False) (I4.hnd a _) hg hm ?_ hd;refine a29 (s:={Z with heap:=Y}) I4.kIn hc hB aB aA rfl ?_
   refine codeAny_handlers_suite_as ?_;have hz:3<a7.size:=(A2D.mp a5).1;refine wpAny_setFlight_none q1 q5 q6 q9 a3 hz ?_
   have same:∀ b u,Y.get? b=some u->(Y.update T' (Obj.mapFields (·.setIfInBounds 3 .none))).get? b=some u:=λb u z=>by
    by_cases e:b=T'
    . subst e;rw[q9] at z;cases z;rw[A3R _ q9 (A3S (A46 a3 _))];obtain⟨c1,d1,aG,aD⟩:=aC;dsimp only at a3;subst a3;refine congrArg some ?_;show Obj.mk c1 d1 (Data.fields (a7.setIfInBounds 3 .none)) aD=_;rw[ak8 a5]
    rw[A20 _ _ (Ne.symm e)];exact z
   have I5:Inv X pins σ2 U {Z with heap:=Y.update T' (Obj.mapFields (·.setIfInBounds 3 .none))}:=I4.kept (t':=Z.toks) same
   refine Me (X:=X) (v:=.ref a) I5 hN hi (.inl hk) rfl (λs6 I6=>?_) (.inr hk);refine thn (hs a _ pins s6 _ U _ (I6.hnd a _) q3) λf s7 h7=>?_
   cases f with
   |next=>obtain⟨σ7,H7,I7,a0⟩:=h7;exact Q1 (I7.unhnd a2) hN hi hk λs8 I8=>⟨_,_,I8,a0⟩
   |brk=>obtain⟨σ7,H7,I7,a0⟩:=h7;exact Q1 (I7.unhnd a2) hN hi hk λs8 I8=>⟨_,_,I8,a0⟩
   |cont=>obtain⟨σ7,H7,I7,a0⟩:=h7;exact Q1 (I7.unhnd a2) hN hi hk λs8 I8=>⟨_,_,I8,a0⟩
   |ret u=>obtain⟨v,σ7,H7,I7,r7,a0⟩:=h7;exact Q1 (I7.unhnd a2) hN hi hk λs8 I8=>⟨v,_,_,I8,r7,a0⟩
 have a1:=a1.untri
 cases f with
 |next=>exact A07 a1
 |brk=>exact a1
 |cont=>exact a1
 |ret u=>exact a1
end
def ap3 (P:Program)(w:World)(K:W.Frag)(mg:Str->Option Value)(base:Heap)(k:Nat)(x:Str)(ps:List Str)(sp:Sp):Prop:=
 ∃ f fd,FnOk P w K mg base (CX1 P w) k f fd ps sp/\mg x=some (.ref f)/\W.keepIn K (.ref f)=true/\Binds K fd ps []
section
variable {k:Nat}{x:Str}{ps:List Str}{sp:Sp}{e:Expr}{es:List Expr}{t:TA}{p:Pos}{E:XK}
def au5 (F:ap3 X.prog X.w X.K X.mg X.base k x ps sp)(hr:Room k X.A)(hg:Gl X x)(hx:Qw (CX1 X.prog X.w) X E)(ha:PA X (e :: es) t)(Y:(x==("__debug__":Str))=false:=by decide)
 (Z:starEach (e :: es) X.env=(false,eval e X.env) :: starEach es X.env:=by ac_nf) (a0:(backTo pos (starEach es X.env)).any (·.1)=false:=by ac_nf):PE X (.Call (.Name x p) (e :: es) [] pos) (a78 sp [] E t):=by
 obtain⟨f,fd,h1,h2,O,U⟩:=F;exact Xz h1 hr hg h2 O U .nil hx ha Y Z a0
end
section
variable {P:Program}{w:World}{K:W.Frag}{mg:Str->Option Value}{base:Heap}
theorem Fun.ok1 {x qual:Str}{st:Stmt}{f:Addr}{fd:FuncData}{N ps:List Str}{k:Nat}{sp:Sp}(F:Fun K x qual st f fd)(S:Am N ps (A8 st))(len:∀ vs H Q E,sp vs H Q E->vs.length=ps.length)
 (U:∀(O:Value) (A:Around) (outer:List Env) (s:Shared) (H:Hp) (vs:List V) (Q:VK) (E:XK),Room k (A.deeper (envOfC qual (A8 st) s.heap.objs.size f O))->sp vs H Q E ->
  ∃ t,PSs (a15 (CX1 P w) P w K mg base N qual (A8 st) f O A outer s H E) (Cd st) t/\t {nx:=λ_ H'=>Q .non H',rt:=Q} (Pq N vs) H):FnOk P w K mg base (CX1 P w) (k+1) f fd ps sp:=by
 obtain⟨oc,od,kV,doc,pm,an,O,ct,osl,rfl,lk,Y⟩:=F.ex;exact aw1 lk Y S len λA outer s H vs Q E Z a0=>U O A outer s H vs Q E Z a0
end
section
variable {K:W.Frag}{σ:St}{H0:Hp}{D:Ends}{t:TE}{fs:List (Str×V)}{E:XK}
def i_sRaise (k:t σ H λx H1=>Xb K H0 E x H1):ad2 K H0 E t D σ H:=k
def Tp (h:ExA H a C fs)(c:XC K C)(F:H0 a=none)(k:∀ H2,(∀ b o,b≠a->H b=some o->H2 b=some o)->ExB false H2 a C fs->E (.ref a) none H2):Xb K H0 E (.ref a) H:=by
 have kp:∀ od b o,b≠a->H b=some o->upd H a (exG false a C od) b=some o:=λod b o U q=>by rw[Ay U];exact q
 rcases h with ⟨O,h⟩|⟨dx,ne,h,g⟩
 . exact⟨a,C,none,rfl,h,c,F,k _ (kp _) (.inl ⟨O,Aj⟩)⟩
 exact⟨a,C,some dx,rfl,h,c,F,k _ (kp _) (.inr ⟨dx,ne,Aj,kp _ _ _ ne g⟩)⟩
end
section
open Lean
def mWay (s:String):MacroM (TSyntax `tactic):=
 if s == "as" then `(tactic| assumption) else if s == "ar" then `(tactic| with_reducible assumption) else `(tactic| walk_at $(quote s))
def a12 (ts:Array (TSyntax `tactic)):MacroM (TSyntax `tactic):=do
 let ts <- ts.mapM λt=>`(Lean.Parser.Tactic.tacticSeq| $t:tactic)
 `(tactic| first $[| $ts]*)
def mId (s:String):Ident:=mkIdent ((s.splitOn ".").foldl Name.mkStr Name.anonymous)
def mIs (s:String):MacroM Ident:=do return mkIdent (<- Macro.addMacroScope (.mkSimple s))
def a10:List String->TSyntax `tactic->MacroM (TSyntax `tactic)
 | [],t=>pure t
 |s :: r,t=>do
   match s.splitOn "=" with
   | [x,y]=>let w <- mWay y;let i <- mIs x;a10 r (<- `(tactic| ($t:tactic;(case $i:ident=>$w:tactic))))
   |_=>a10 r t
def mRow (s:String):MacroM (TSyntax `tactic):=do
 match s.splitOn ": " with
 | [h,c]=>
   match h.splitOn " " with
   |f :: as=>
     let xs <- as.toArray.mapM λa=>do if a == "_" then `(?_) else `(?$(<- mIs a))
     let u:=Syntax.mkApp (mId f) xs
     let t <- if as.contains "_" then `(tactic| with_reducible refine' $u) else `(tactic| refine' $u)
     a10 (c.splitOn " ") t
   |_=>Macro.throwUnsupported
 |_=>do
   if s == "as" then `(tactic| assumption)
   else if s == "no" then `(tactic| fail "no")
   else `(tactic| exact $(mId s))
def mRows (s:String):MacroM (TSyntax `tactic):=do a12 (<- (s.splitOn " | ").toArray.mapM mRow)
def mAlts (s:String):MacroM (TSyntax `tactic):=do
 let a <- a12 (<- (s.splitOn " ").toArray.mapM λn=>`(tactic| refine $(mId n) ?_))
 `(tactic| with_reducible $a:tactic)
def mAltG (s:String):MacroM (TSyntax `tactic):=do
 let a <- a12 (<- (s.splitOn " ").toArray.mapM λn=>`(tactic| refine $(mId n) λN F=>?_))
 `(tactic| with_reducible $a:tactic)
end
section
open PySem
def same_refl:Same H H:=Same.refl _
def fz_refl:Fz H H:=Fz.refl _
def Cut (N M:St->Hp->Prop):Prop:=∀ σ H,M σ H->N σ H
section
variable {t u:TS}{te td ty tv:TE}{g:TG}{D:Ends}{σ:St}
def ar4 (k:∀ N:St->Hp->Prop,Cut N (u D)->t {D with nx:=N} σ H):aB7 t u D σ H:=k (u D) λ_ _ h=>h
def i_seqAG (k:∀ N:St->Hp->Prop,Cut N (u D)->ao3 te g {D with nx:=N} σ H):aB7 (ao3 te g) u D σ H:=k (u D) λ_ _ h=>h
def i_nxS {rt:VK}{bk ct:St->Hp->Prop}(k:D.nx (σ.set i none) H):Ends.nx {nx:=fun σ2 H2=>D.nx (σ2.set i none) H2,rt:=rt,bk:=bk,ct:=ct} σ H:=k
def i_cutN {N M:St->Hp->Prop}(h:Cut N M)(k:M σ H):N σ H:=h _ _ k
end
def at1 {α:Type}{P:List α->Prop}{us:List α}(hl:us.length=0)(h:P []):P us:=by rw[A1D.mp hl];exact h
def a83 {α:Type}{P:List α->Prop}{us:List α}(hl:us.length=1)(h:∀ F:α,P [F]):P us:=by
 cases us with
 |nil=>cases hl
 |cons a r=>exact at1 (P:=λr=>P (a :: r)) (Nat.succ.inj hl) (h a)
def a98 {α:Type}{P:List α->Prop}{us:List α}(hl:us.length=2)(h:∀ F O:α,P [F,O]):P us:=by
 cases us with
 |nil=>cases hl
 |cons a r=>exact a83 (P:=λr=>P (a :: r)) (Nat.succ.inj hl) (h a)
def a86 {α:Type}{P:List α->Prop}{us:List α}(hl:us.length=3)(h:∀ F O U:α,P [F,O,U]):P us:=by
 cases us with
 |nil=>cases hl
 |cons a r=>exact a98 (P:=λr=>P (a :: r)) (Nat.succ.inj hl) (h a)
def aq9 {α:Type}{P:List α->Prop}{us:List α}(hl:us.length=4)(h:∀ F O U Y:α,P [F,O,U,Y]):P us:=by
 cases us with
 |nil=>cases hl
 |cons a r=>exact a86 (P:=λr=>P (a :: r)) (Nat.succ.inj hl) (h a)
end
def aE1 {s z a:Nat}(hs:s<26)(ha:a<z)(hz:z<=8){l:List Nat}(hl:l∈a91 s z a):l.length=z:=by obtain⟨k,Y,rfl⟩:=A0A.mp hl;have hm:7*k % 26<26:=Nat.mod_lt _ ∅;have F:=Km (a:=s) (b:=s+a) (by omega) (by omega);have O:=Mf (i:=7*k % 26) (by omega);have U:=Km (a:=s) (b:=s+z-a-1) (by omega) (by omega);simp only[List.length_append];omega
section
variable {K:W.Frag}{x qual:Str}{st:Stmt}{f:Addr}{fd:FuncData}
def Yb (F:Fun K x qual st f fd)(h:∀(kV U pm:Value) (an:Option Addr) (O ct:Value) (Y:Value),bindArgs (W.fnOf x qual (Cr st) (Cd st) (A8 st) .none kV U pm an O ct) ⟨[Y],[]⟩=pure (([p0]:List Str).zip [Y])):Binds K fd [p0] []:=
 F.binds λkV U pm an O ct us hl=>a83 (P:=λus=>bindArgs (W.fnOf x qual (Cr st) (Cd st) (A8 st) .none kV U pm an O ct) ⟨us,[]⟩=pure (([p0]:List Str).zip us)) hl (h kV U pm an O ct)
def Yk (F:Fun K x qual st f fd)(h:∀(kV U pm:Value) (an:Option Addr) (O ct:Value) (Y Z:Value),bindArgs (W.fnOf x qual (Cr st) (Cd st) (A8 st) .none kV U pm an O ct) ⟨[Y,Z],[]⟩=pure (([p0,p1]:List Str).zip [Y,Z])):Binds K fd [p0,p1] []:=
 F.binds λkV U pm an O ct us hl=>a98 (P:=λus=>bindArgs (W.fnOf x qual (Cr st) (Cd st) (A8 st) .none kV U pm an O ct) ⟨us,[]⟩=pure (([p0,p1]:List Str).zip us)) hl (h kV U pm an O ct)
def Vi {p2:Str}(F:Fun K x qual st f fd)(h:∀(kV U pm:Value) (an:Option Addr) (O ct:Value) (Y Z u2:Value),bindArgs (W.fnOf x qual (Cr st) (Cd st) (A8 st) .none kV U pm an O ct) ⟨[Y,Z,u2],[]⟩=pure (([p0,p1,p2]:List Str).zip [Y,Z,u2])):Binds K fd [p0,p1,p2] []:=
 F.binds λkV U pm an O ct us hl=>a86 (P:=λus=>bindArgs (W.fnOf x qual (Cr st) (Cd st) (A8 st) .none kV U pm an O ct) ⟨us,[]⟩=pure (([p0,p1,p2]:List Str).zip us)) hl (h kV U pm an O ct)
def Y7 {p2 Y:Str}(F:Fun K x qual st f fd)(h:∀(kV U pm:Value) (an:Option Addr) (O ct:Value) (Z u1 u2 u3:Value),bindArgs (W.fnOf x qual (Cr st) (Cd st) (A8 st) .none kV U pm an O ct) ⟨[Z,u1,u2,u3],[]⟩=pure (([p0,p1,p2,Y]:List Str).zip [Z,u1,u2,u3])):Binds K fd [p0,p1,p2,Y] []:=
 F.binds λkV U pm an O ct us hl=>aq9 (P:=λus=>bindArgs (W.fnOf x qual (Cr st) (Cd st) (A8 st) .none kV U pm an O ct) ⟨us,[]⟩=pure (([p0,p1,p2,Y]:List Str).zip us)) hl (h kV U pm an O ct)
end
def af9 {A:Around}{x:Option Value}(h:QA A):QA (A.mark x):=⟨h.un,h.gd⟩
section
open PySem.SeqAt PySem.MeetsSeq
variable {A:Around}{s:Shared}
end
section
variable {prog:Program}{w:World}{A:Around}{s:Shared}
set_option maxRecDepth 100000 in
end
section
variable {p2:Pos}
end
def U0 (a b:Addr)(xs ys:Array Value) :
 Meets (Builtin.«zip.__new__» ⟨[.type "zip",.ref a,.ref b],[]⟩) (λ_ R s=>s.heap.IsList a xs/\s.heap.IsList b ys/\R (.ok (.ret (.ref (zp3 s.heap (liO a) (liO b)).objs.size))) {s with heap:=zp4 s.heap (liO a) (liO b)}):=
 .of_wp λprog w A R s O=>by
  obtain⟨F,g,d,tk,os⟩:=s;obtain⟨ha,Z,go⟩:=O;have a0:=sub_zip;have U:Heap.IsList (Shared.heap ⟨F,g,d,tk,os⟩) a xs:=ha;have Y:Heap.IsList (Shared.heap ⟨F.push (liO a),g,d,tk,os⟩) b ys:=Heap.IsList.push Z _
  wp_walk using A2A U,A2A Y
  exact⟨_,rfl,go⟩
section
variable {P:Program}{w:World}{A:Around}{z:Shared}
theorem Wo {b:Addr}{xs ys:Array Value}{Q:Value->Shared->Prop}(ha:z.heap.IsList a xs)(hb:z.heap.IsList b ys)
 (go:∀ g,Ll g (z.heap.objs.size+4) (z.heap.objs.size+2) (z.heap.objs.size+3) .none false->IsPair g (z.heap.objs.size+2) (.ref z.heap.objs.size) (.ref (z.heap.objs.size+1))->IsPair g (z.heap.objs.size+3) .none .none ->
  g.get? z.heap.objs.size=some (liO a)->g.get? (z.heap.objs.size+1)=some (liO b)->g.objs.size=z.heap.objs.size+5->(∀ b o,z.heap.get? b=some o->g.get? b=some o)->Q (.ref (z.heap.objs.size+4)) {z with heap:=g}) :
 wpAny (model P w) A (call (.type "zip") [.ref a,.ref b]) Q E z:=by
 refine callType_new F.called_zip ∅ (F.typeCall_zip_2 _ _) (F.newCall_zip_2 _ _) (λobj=>F.args_object_init_3 obj _ _) F.entry_zip_new (U0 a b xs ys) ⟨ha,hb,?_⟩;refine U3 (Q:=λv s'=>s'.TypeIs v "zip" /\ Q v s') rfl (λg O Z g4 U Y z5 kp=>⟨⟨_,O,rfl⟩,go g O Z g4 U Y z5 kp⟩) rfl rfl
end
section
variable {K:W.Frag}
end
section
variable {K:W.Frag}{Q:VK}
end
section
variable {pins:List (Addr×Obj)}{σ:St}{s:Shared}
end
mutual
def ah2:PyData->Bool
 |.str z=>z.cps.toList.all λc=>decide (c<128)
 |.list ds=>ad3 ds
 |.tuple ds=>ad3 ds
 |.dict _=>false
 |_=>true
def ad3:List PyData->Bool
 | []=>true
 |d :: ds=>ah2 d&&ad3 ds
end
mutual
def ao5:PyData->Nat
 |.list ds=>max ds.length (a84 ds)
 |.tuple ds=>max ds.length (a84 ds)
 |_=>0
def a84:List PyData->Nat
 | []=>0
 |d :: ds=>max (ao5 d) (a84 ds)
end
structure Dk (p w W:Nat)(D:PyData):Prop where
 asc:ah2 D=true
 lay:D.canLay0=true
 sh:D.showable=true
 lv:D.leavesShort 45=true
 dp:D.depth<=p
 wt:D.weight<=w
 wd:ao5 D<=W
structure Els (p w W:Nat)(ds:List PyData):Prop where
 all:∀ e∈ds,∃ u,Dk p u W e
 wt:PyData.weightAll ds<=w
 len:ds.length<=W
def Dk.le {w W p' O F:Nat}(h:Dk p w W D)(h1:p<=p')(h2:w<=O)(U:W<=F:=by omega):Dk p' O F D:=⟨h.asc,h.lay,h.sh,h.lv,A0M h.dp h1,A0M h.wt h2,A0M h.wd U⟩
theorem Xf {p W:Nat}:∀ {ds:List PyData},(∀ e∈ds,∃ u,Dk p u W e)->ad3 ds=true/\PyData.canLayAll0 ds=true/\PyData.showableAll ds=true/\PyData.leavesShortAll 45 ds=true/\PyData.depthAll ds<=p/\a84 ds<=W
 | [],_=>⟨by simp only[ad3],by simp only[PyData.canLayAll0],by simp only[PyData.showableAll],by simp only[PyData.leavesShortAll],by simp only[PyData.depthAll];omega,by simp only[a84];omega⟩
 |d :: ds,h=>by obtain⟨u,a⟩:=h d (by simp);obtain⟨F,O,U,Y,b4,b5⟩:=Xf (ds:=ds) λe Z=>h e (by simp[Z]);have:=a.dp;have:=a.wd;exact⟨by simp only[ad3,a.asc,F,Bool.and_self],by simp only[PyData.canLayAll0,a.lay,O,Bool.and_self],by simp only[PyData.showableAll,a.sh,U,Bool.and_self],by simp only[PyData.leavesShortAll,a.lv,Y,Bool.and_self],by simp only[PyData.depthAll];omega,by simp only[a84];omega⟩
theorem Zl {p W:Nat}:∀ {ds:List PyData},ad3 ds=true->PyData.canLayAll0 ds=true->PyData.showableAll ds=true->PyData.leavesShortAll 45 ds=true->PyData.depthAll ds<=p->a84 ds<=W->∀ e∈ds,∃ u,Dk p u W e
 | [],_,_,_,_,_,_=>λe F=>by cases F
 |d :: ds,h0,h1,h2,h3,h4,h5=>λe F=>by
   simp only[ad3,PyData.canLayAll0,PyData.showableAll,PyData.leavesShortAll,PyData.depthAll,a84,Bool.and_eq_true] at h0 h1 h2 h3 h4 h5;rcases A0G.mp F with rfl|F
   . exact⟨_,h0.1,h1.1,h2.1,h3.1,by omega,A0B _,by omega⟩
   exact Zl h0.2 h1.2 h2.2 h3.2 (by omega) (by omega) e F
def F8 {w W:Nat}{ds:List PyData}(h:Els p w W ds):Dk (p+1) w W (.tuple ds):=by obtain⟨F,O,U,Y,Z,a5⟩:=Xf h.all;have:=h.len;exact⟨by simpa only[ah2] using F,by simpa only[PyData.canLay0] using O,by simpa only[PyData.showable] using U,by simpa only[PyData.leavesShort] using Y,by simp only[PyData.depth];omega,by simpa only[PyData.weight] using h.wt,by simp only[ao5];omega⟩
def Dk.els {w W:Nat}{ds:List PyData}(h:Dk (p+1) w W (.tuple ds)):Els p w W ds:=by obtain⟨F,O,U,Y,a4,Z,a6⟩:=h;simp only[ao5,ah2,PyData.canLay0,PyData.showable,PyData.leavesShort,PyData.depth,PyData.weight] at F O U Y a4 Z a6;exact⟨Zl F O U Y (by omega) (by omega),Z,by omega⟩
def Els.one {w W:Nat}(h:Dk p w W D)(F:1<=W):Els p (w+1) W [D]:=⟨λe O=>by rw[List.mem_singleton.mp O];exact⟨w,h⟩,by simp only[PyData.weightAll];have:=h.wt;omega,by simpa using F⟩
def Asc (z:Str):Prop:=∀ c∈z.cps.toList,c<128
def Asc.ok (h:Asc z):PyData.strOk z=true:=by unfold PyData.strOk;rw[<- Array.all_toList,A0L];intro c F;have:=h c F;exact A0D (by omega)
def Sb {w W:Nat}(h:Asc z)(hl:z.length<=w):Dk p w W (.str z):=by
 refine⟨?_,by simpa only[PyData.canLay0] using h.ok,by simp only[PyData.showable],?_,by simp only[PyData.depth];omega,by simp only[PyData.weight];exact hl,by simp only[ao5];omega⟩
 . simp only[ah2];rw[A0L];exact λc F=>A0D (h c F)
 simp only[PyData.leavesShort];rw[A0L];intro c F;have:=h c F;exact A0D (by omega)
theorem Dk.str {w W:Nat}(h:Dk p w W (.str z)):Asc z/\z.length<=w:=by obtain⟨F,_,_,_,_,O,_⟩:=h;simp only[ah2,List.all_eq_true] at F;simp only[PyData.weight] at O;exact⟨λc U=>A13 (F c U),O⟩
theorem Dk.shaped {w W:Nat}(h:Dk p w W D)(F:p<=64):SeqAt.shaped D=true:=by have:=h.dp;unfold SeqAt.shaped;rw[h.lay,A0D (by omega)];rfl
def Fw {xs:List V}{t:Int}(F:0<=t):So xs (some t) none=xs.drop t.toNat:=by
 by_cases h:t<=xs.length
 . exact a72 F h
 have e:HT.sIx xs.length 0 (some t)=xs.length:=by unfold HT.sIx;simp[show ¬ t<0 by omega];omega
 unfold So;rw[e,List.drop_length,List.take_nil,List.drop_eq_nil_of_le (by omega)]
section
variable {K:W.Frag}
def X3 (K:W.Frag):List V->Hp->VK->Prop:=λxs H Q=>∃ x d,xs=[x]/\Is K H d x/\d.showable=true/\d.shown.length<=sizeLine/\d.depth<=100/\Q (.str d.shown) H
theorem Wh (O:QA X.A):CallR X (.builtin "repr") (X3 X.K):=by
 intro pins s σ H xs us Q I F h;obtain⟨x,d,rfl,i,hs,hf,hd,q⟩:=h
 cases d with
 |none=>simp only[Is] at i;subst i;exact Om pins s σ H _ us Q I F (.inr ⟨rfl,q⟩)
 |bool b=>
   simp only[Is] at i;subst i;refine Om pins s σ H _ us Q I F (.inl ⟨b,rfl,?_⟩)
   cases b<;>exact q
 |int n=>simp only[Is] at i;subst i;exact Wp pins s σ H _ us Q I F ⟨n,rfl,of_decide_eq_true (by simpa only[PyData.showable] using hs),q⟩
 |str z=>simp only[Is] at i;subst i;obtain⟨u,rfl,ru⟩:=F.one;obtain⟨t,rfl⟩:=ru;exact PySem.P.repr_of_str ⟨.str _,H,I.tok _,⟨_,rfl⟩,q⟩ hf
 |list ds=>exact On O pins s σ H _ us Q I F ⟨x,_,rfl,i,⟨rfl,hs,hf,hd⟩,q⟩
 |tuple ds=>exact On O pins s σ H _ us Q I F ⟨x,_,rfl,i,⟨rfl,hs,hf,hd⟩,q⟩
 |dict kvs=>simp only[Is] at i
def Dp (O:QA X.A)(F:X.K=K:=by ac_nf):CallR X (.builtin "repr") (X3 K):=F ▸ Wh O
def Lf {Q:VK}{d:PyData}{x:V}(h:Is K H d x)(h1:d.showable=true)(h2:d.shown.length<=sizeLine)(F:d.depth<=100)(k:Q (.str d.shown) H):X3 K [x] H Q:=⟨x,d,rfl,h,h1,h2,F,k⟩
end
section
variable {prog:Program}{w:World}{A:Around}{s:Shared}
end
section
variable {P:Program}{w:World}{A:Around}{R:Result->Shared->Prop}{it:Addr}{fp wr:List Addr}{G:Array GenState->Array GenState->Prop}{n:Nat}{PV:Nat->Value->Prop}{St:Nat->Shared->Prop}
end
section
variable {prog:Program}{w:World}{A:Around}{s:Shared}
set_option maxHeartbeats 3200000 in
end
section
variable {K:W.Frag}
end
end L2
namespace L2
open PySem PySem.Spec PyProof.Rows
open Builtin
section
variable {X:Cx}{K:W.Frag}
end
end L2
namespace L2
open PySem PySem.Spec PyProof.Rows
variable {a b:Addr}{H:Hp}{m:Int}{kvs:List (Key×V)}{xs:List V}{P:Program}{Q:VK}
section
variable {w:World} {K:W.Frag} {mg:Str->Option Value} {base:Heap} {k:Nat} {f:Addr} {fd:FuncData} {ps:List Str} {sp sp':Sp}
end
theorem Nd:∀(k F n:Nat) (ds:List Char),1<=k->n<10 ^ k->(Nat.toDigitsCore 10 F n ds).length<=ds.length+k
 |_,0,n,ds,_,_=>by simp[Nat.toDigitsCore]
 |k,F+1,n,ds,hk,hn=>by
   unfold Nat.toDigitsCore;dsimp only
   split
   . simp;omega
   rename_i h0
   cases k with
   |zero=>omega
   |succ k=>
     have h1:n / 10<10 ^ k:=by rw[Nat.div_lt_iff_lt_mul (by omega)];rw[Nat.pow_succ] at hn;exact hn
     have O:1<=k:=by
      cases k with
      |zero=>simp at h1;omega
      |succ _=>omega
     have:=Nd k F (n / 10) (Nat.digitChar (n % 10) :: ds) O h1;rw[A0X] at this;omega
def am5 (s:String):(s:Str).length=s.toList.length:=by show(Str.ofString s).cps.size=_;rw[Str.ofString_eq_byList];unfold Str.ofStringByList;simp
def V5 {n:Nat}(h:n<10 ^ 44):(Nat.repr n).toList.length<=44:=by unfold Nat.repr Nat.toDigits;have:=Nd 44 (n+1) n [] (by omega) h;simpa using this
def Yf  (h:m.natAbs<10 ^ 44):(PyData.int m).shown.length<=45:=by
 simp only[PyData.shown];rw[am5]
 cases m with
 |ofNat n=>have:(toString (Int.ofNat n):String)=Nat.repr n:=rfl;rw[this];exact A0M (V5 h) (by omega)
 |negSucc n=>
   have:(toString (Int.negSucc n):String) = "-" ++ Nat.repr (n+1):=rfl;rw[this];have h2:=V5 (n:=n+1) h;rw[String.toList_append,A08];have:("-":String).toList.length=1:=by decide
   omega
def ak4 (h:m.natAbs<10 ^ 44):m.natAbs.log2<147:=by
 by_cases F:m.natAbs=0
 . rw[F];decide
 exact(Nat.log2_lt F).mpr (A3Q h ∅)
def ax5 {p W:Nat}(h:m.natAbs<10 ^ 44):Dk p 150 W (.int m):=by
 have hl:=ak4 h;refine⟨by simp only[ah2],by simp only[PyData.canLay0],?_,?_,by simp only[PyData.depth];omega,?_,by simp only[ao5];omega⟩
 . simp only[PyData.showable];exact A0D (by omega)
 . simp only[PyData.leavesShort];exact A0D (Yf h)
 simp only[PyData.weight]
 split<;>omega
section
variable {w:World}{A:Around}{E:Value->Shared->Prop}{z:Shared}
theorem aI1 {c TI TO i1 i2:Addr}{fp1 fp2:List Addr}{n n2 i:Nat}{P1 P2:Nat->Value->Prop}{S1 S2:Nat->Heap->Prop}{u0 v0:Value}{Q:Value->Shared->Prop}
 (Y:Draws P w A i1 fp1 n P1 S1) (Z:Draws P w A i2 fp2 n2 P2 S2) (hi:i<n) (aU:i<n2) (hc:Ll z.heap c TI TO .none false) (aM:IsPair z.heap TI (.ref i1) (.ref i2)) (aN:IsPair z.heap TO u0 v0)
 (h1:S1 i z.heap) (h2:S2 i z.heap) (c1:c∉fp1) (c2:c∉fp2) (o1:TO∉fp1) (o2:TO∉fp2) (x1:i1∉fp2) (x2:i2∉fp1) (y1:i1≠c) (y2:i2≠c) (oc:TO≠c) (aV:TO≠i1) (aW:TO≠i2)
 (go:∀ g tk x y,P1 i x->P2 i y->Ll g c TI TO (rawInt z.heap.objs.size) false->IsPair g TO x y->IsPair g z.heap.objs.size x y->S1 (i+1) g->S2 (i+1) g->(∀ b F,b≠c->b≠i1->b≠i2->b≠TO->z.heap.get? b=some F->g.get? b=some F)->Q (.ref z.heap.objs.size) {z with heap:=g,toks:=tk}) :
 wpAny (model P w) A (Builtin.«zip.__next__» ⟨[.ref c],[]⟩) (λaD s'=>∃ v,aD = .done (.ret v)/\Q v s') E z:=by
 show wpAny _ _ (field (.ref c) 2 >>= _) _ _ _;refine(A02 (A1E hc rfl (x:=.bool false) rfl ?_));show wpAny _ _ (field (.ref c) 3 >>= _) _ _ _;refine(A02 (A1E hc rfl (x:=.ref TI) rfl ?_));refine(A02 (A29 aM rfl ?_));show wpAny _ _ (Builtin.SmallTypes.ownedTupleIsFree (.ref c) >>= _) _ _ _;refine(A02 ?_);unfold Builtin.SmallTypes.ownedTupleIsFree;refine(A02 (A1E hc rfl (x:=.none) rfl (A07 ?_)));simp only[if_true];refine(A02 (A4T ?_));refine(A02 (A1E hc rfl (x:=.ref TO) rfl ?_));refine(wpAny_bind (wpAny_setField_rec hc (by simp) λg0 aR a0=>?_));refine(A02 ?_);simp only[List.zipIdx_cons,List.zipIdx_nil,List.forIn_cons,List.forIn_nil];have aE:S1 i g0:=Y.frame i _ _ h1 λb O F q=>a0.extBut b F (λe=>c1 (e ▸ O)) q;have aF:S2 i g0:=Z.frame i _ _ h2 λb O F q=>a0.extBut b F (λe=>c2 (e ▸ O)) q;have aO:IsPair g0 TO u0 v0:=a0.extBut _ _ oc aN;refine(A02 (A02 (A3Y ?_)));show wpAny _ _ (Builtin.SmallTypes.nextOf (.ref i1) >>= _) _ _ _;refine(A02 (Y.item i _ _ _ hi aE λx g1 aY hx aH a1=>A07 ?_));have a5:IsPair g1 TO u0 v0:=a1.extBut _ _ aV aO;refine(A02 (A29 a5 rfl ?_));refine(A02 (A4X a5 λg2 aP a2=>?_));refine(A02 (wpAny_letGo (A07 ?_)));have aG:S2 i g2:=Z.frame i _ _ aF λb O F q=>a2.extBut b F (λe=>o2 (e ▸ O)) (a1.extBut b F (λe=>x1 (e ▸ O)) q);have aI:S1 (i+1) g2:=Y.frame _ _ _ aH λb O F q=>a2.extBut b F (λe=>o1 (e ▸ O)) q;refine(A02 (A02 (A3Y ?_)));show wpAny _ _ (Builtin.SmallTypes.nextOf (.ref i2) >>= _) _ _ _;refine(A02 (Z.item i _ _ _ aU aG λy g3 aX hy aK a3=>A07 ?_));have a6:IsPair g3 TO x v0:=a3.extBut _ _ aW aP;refine(A02 (A29 a6 rfl ?_));refine(A02 (A4X a6 λU aQ a4=>?_));refine(A02 (wpAny_letGo (A07 (A07 ?_))));have a7:IsPair U TO x y:=aQ;refine(A02 (A29 a7 rfl ?_));refine(A02 (wpAny_newTuple ?_));have hsz:U.objs.size=z.heap.objs.size:=by rw[a4.1,a3.1,a2.1,a1.1,a0.1]
 have a8:Ll U c TI TO .ellipsis false:=a4.extBut _ _ (Ne.symm oc) (a3.extBut _ _ (Ne.symm y2) (a2.extBut _ _ (Ne.symm oc) (a1.extBut _ _ (Ne.symm y1) aR)));have aA:c<U.objs.size:=A09 a8;show wpAny _ _ (Builtin.SmallTypes.ownedTupleHandOut (.ref c) (.ref U.objs.size) >>= _) _ _ _;refine(A02 ?_);unfold Builtin.SmallTypes.ownedTupleHandOut;have aS:Ll (U.push {cls:=.type "tuple",data:=.seq #[x,y]}) c TI TO .ellipsis false:=A04 _ a8;refine(wpAny_bind (wpAny_setField_rec aS (by simp) λg6 aT aB=>?_));refine(wpAny_setField_rec aT (by simp) λg7 a9 aC=>?_);have up:∀ b F,b≠c->U.get? b=some F->g7.get? b=some F:=λb F b1 q=>aC.extBut b F b1 (aB.extBut b F b1 (A04 _ q));refine(A07 ⟨_,rfl,?_⟩);have aL:S2 (i+1) U:=Z.frame _ _ _ aK λb O F q=>a4.extBut b F (λe=>o2 (e ▸ O)) q;have aJ:S1 (i+1) U:=Y.frame _ _ _ aI λb O F q=>a4.extBut b F (λe=>o1 (e ▸ O)) (a3.extBut b F (λe=>x2 (e ▸ O)) q);rw[hsz] at a9 ⊢;refine go g7 aX x y hx hy a9 (up _ _ oc a7) (by rw[<- hsz];exact aC.extBut _ _ (A2O aA) (aB.extBut _ _ (A2O aA) (A0F _ rfl))) ?_ ?_ ?_
 . exact Y.frame _ _ _ aJ λb O F q=>up b F (λe=>c1 (e ▸ O)) q
 . exact Z.frame _ _ _ aL λb O F q=>up b F (λe=>c2 (e ▸ O)) q
 exact λb F b1 b2 b3 b4 q=>up b F b1 (a4.extBut b F b4 (a3.extBut b F b3 (a2.extBut b F b4 (a1.extBut b F b2 (a0.extBut b F b1 q)))))
theorem aG4 {c TI TO i1 i2:Addr}{fp1 fp2:List Addr}{n O:Nat}{P1 P2:Nat->Value->Prop}{S1 S2:Nat->Heap->Prop}{u0 v0:Value}{Q:PySem.Fin->Shared->Prop}
 (D1:Draws P w A i1 fp1 n P1 S1) (D2:Draws P w A i2 fp2 O P2 S2) (hi:O<n) (Y:Ll z.heap c TI TO .none false) (aB:IsPair z.heap TI (.ref i1) (.ref i2)) (aC:IsPair z.heap TO u0 v0) (h1:S1 O z.heap) (h2:S2 O z.heap) (c1:c∉fp1) (c2:c∉fp2) (o2:TO∉fp2) (x1:i1∉fp2) (y1:i1≠c) (y2:i2≠c) (oc:TO≠c) (aG:TO≠i1)
 (stop:∀ g tk e,(∀ b F,b≠c->b≠i1->b≠i2->b≠TO->z.heap.get? b=some F->g.get? b=some F)->(∃ F,g.get? e=some F/\F.cls = .type "StopIteration")->E (.ref e) {z with heap:=g,toks:=tk}) :
 wpAny (model P w) A (Builtin.«zip.__next__» ⟨[.ref c],[]⟩) Q E z:=by
 show wpAny _ _ (field (.ref c) 2 >>= _) _ _ _;refine(A02 (A1E Y rfl (x:=.bool false) rfl ?_));show wpAny _ _ (field (.ref c) 3 >>= _) _ _ _;refine(A02 (A1E Y rfl (x:=.ref TI) rfl ?_));refine(A02 (A29 aB rfl ?_));show wpAny _ _ (Builtin.SmallTypes.ownedTupleIsFree (.ref c) >>= _) _ _ _;refine(A02 ?_);unfold Builtin.SmallTypes.ownedTupleIsFree;refine(A02 (A1E Y rfl (x:=.none) rfl (A07 ?_)));simp only[if_true];refine(A02 (A4T ?_));refine(A02 (A1E Y rfl (x:=.ref TO) rfl ?_));refine(wpAny_bind (wpAny_setField_rec Y (by simp) λg0 aE Z=>?_));refine(A02 ?_);simp only[List.zipIdx_cons,List.zipIdx_nil,List.forIn_cons,List.forIn_nil];have a8:S1 O g0:=D1.frame O _ _ h1 λb U F q=>Z.extBut b F (λe=>c1 (e ▸ U)) q;have a9:S2 O g0:=D2.frame O _ _ h2 λb U F q=>Z.extBut b F (λe=>c2 (e ▸ U)) q;have aD:IsPair g0 TO u0 v0:=Z.extBut _ _ oc aC;refine(A02 (A02 (A3Y ?_)));show wpAny _ _ (Builtin.SmallTypes.nextOf (.ref i1) >>= _) _ _ _;refine(A02 (D1.item O _ _ _ hi a8 λx g1 aH hx aI a0=>A07 ?_));have a3:IsPair g1 TO u0 v0:=a0.extBut _ _ aG aD;refine(A02 (A29 a3 rfl ?_));refine(A02 (A4X a3 λg2 aJ a2=>?_));refine(A02 (wpAny_letGo (A07 ?_)));have aA:S2 O g2:=D2.frame O _ _ a9 λb U F q=>a2.extBut b F (λe=>o2 (e ▸ U)) (a0.extBut b F (λe=>x1 (e ▸ U)) q);refine(A02 (A02 (A3Y ?_)));show wpAny _ _ (Builtin.SmallTypes.nextOf (.ref i2) >>= _) _ _ _;refine(A02 (D2.done _ _ _ aA λg3 e a6 he=>?_));obtain⟨oe,a1,a5⟩:=he;have a4:Ll g3 c TI TO .ellipsis false:=a6 _ _ (Ne.symm y2) (a2.extBut _ _ (Ne.symm oc) (a0.extBut _ _ (Ne.symm y1) aE));have aF:e≠c:=λq=>by subst q;rw[show g3.get? _=_ from a4] at a1;cases a1;simp at a5
 refine(wpAny_setField_rec a4 (by simp) λg4 _ a7=>?_);exact stop g4 aH e (λb F b1 b2 b3 b4 q=>a7.extBut b F b1 (a6 b F b3 (a2.extBut b F b4 (a0.extBut b F b2 (Z.extBut b F b1 q))))) ⟨oe,a7.extBut _ _ aF a1,a5⟩
end
def Itz (K:W.Frag)(a b:Addr):It:=
 ⟨λi H=>∃ xs ys x y,SqT K H a xs/\SqT K H b ys/\xs[i]? = some x/\ys[i]? = some y,λi H v H'=>∃ t x y,H t=none/\H'=upd H t (.tup [x,y])/\v = .ref t/\(∀ xs,SqT K H a xs->xs[i]? = some x)/\∀ ys,SqT K H b ys->ys[i]? = some y,λi H=>∃ xs ys,SqT K H a xs/\SqT K H b ys/\(xs.length=i\/(i<xs.length/\ys.length=i))⟩
def ZTn (c TI TO i1 i2 a b:Addr)(i:Nat)(h:Heap):Prop:=Ll h c TI TO .none false/\IsPair h TI (.ref i1) (.ref i2)/\(∃ u v,IsPair h TO u v)/\h.IsTupleIter i1 a i/\h.IsTupleIter i2 b i
structure Yw (c TI TO i1 i2 a b:Addr):Prop where
 nd:[c,TI,TO,i1,i2].Nodup
 na:a∉[c,TI,TO,i1,i2]
 nb:b∉[c,TI,TO,i1,i2]
theorem a36 {w:World}{K:W.Frag}{elts:List Expr}{ek:Nat}{epos:Pos}(c TI TO i1 i2 a b:Addr)(O:Yw c TI TO i1 i2 a b):Xu P w K (.Tuple elts ek epos) (Itz K a b) [c,TI,TO,i1,i2] c (ZTn c TI TO i1 i2 a b) where
 mem:=by simp
 obj:=λi h st x hx=>by
  obtain⟨h1,h2,⟨u,v,Z⟩,⟨o4,Y,_,d4⟩,⟨o5,h5,_,d5⟩⟩:=st;simp only[List.mem_cons,List.not_mem_nil,or_false] at hx;rcases hx with rfl|rfl|rfl|rfl|rfl
  . exact⟨_,h1,λv z=>by cases z⟩
  . exact⟨_,h2,λv z=>by cases z⟩
  . exact⟨_,Z,λv z=>by cases z⟩
  . exact⟨o4,Y,λv z=>by rw[d4] at z;cases z⟩
  exact⟨o5,h5,λv z=>by rw[d5] at z;cases z⟩
 keep:=λi h h' st k=>by obtain⟨h1,h2,⟨u,v,Z⟩,Y,h5⟩:=st;exact⟨k c (by simp) _ h1,k TI (by simp) _ h2,⟨u,v,k TO (by simp) _ Z⟩,Y.at λo q=>k i1 (by simp) o q,h5.at λo q=>k i2 (by simp) o q⟩
 item:=by
  intro X hP hw hK hc i pins s σ H E I hf st hg;subst hP hw hK;obtain⟨nd,na,nb⟩:=O;simp only[List.nodup_cons,List.mem_cons,List.not_mem_nil,or_false,not_or,List.nodup_nil,and_true,not_false_eq_true] at nd na nb;obtain⟨⟨n1,n2,n3,n4⟩,⟨n5,n6,n7⟩,⟨n8,n9⟩,a9⟩:=nd;obtain⟨a1,a2,a3,a4,a5⟩:=na;obtain⟨b1,b2,b3,b4,b5⟩:=nb;obtain⟨xs,ys,x,y,a7,a8,hx,hy⟩:=hg;obtain⟨a0,rv,p,hz⟩:=I.tuple a7;obtain⟨a6,aB,p',hz'⟩:=I.tuple a8;obtain⟨u,hu,ru⟩:=rv.get hx;obtain⟨v,hv,rv2⟩:=aB.get hy;have hil:i<a0.length:=(A03.mp hu).1;have hjl:i<a6.length:=(A03.mp hv).1;have hd:X.A.in1.handled=none:=by simpa using I.ok.hd hc
  have D1:=Oc (prog:=X.prog) (w:=X.w) hd i1 a a4 a0.toArray;have D2:=Oc (prog:=X.prog) (w:=X.w) hd i2 b b5 a6.toArray;obtain⟨h1,h2,⟨u0,v0,Z⟩,Y,h5⟩:=st;have hT:s.TypeIs (.ref c) "zip":=⟨_,h1,rfl⟩;have hcl:c<s.heap.objs.size:=A09 h1;have hTIl:TI<s.heap.objs.size:=A09 h2;have hTOl:TO<s.heap.objs.size:=A09 Z;have h1l:i1<s.heap.objs.size:=let ⟨_,q,_⟩:=Y;A09 q;have h2l:i2<s.heap.objs.size:=let ⟨_,q,_⟩:=h5;A09 q;unfold pyNext
  refine A02 (A5B (A25 (name:=Str.ofString "__next__") hT F.slot_zip_next (A24 F.slot_zip_next hT F.entry_zip_next
   (aI1 D1 D2 (by simpa using hil) (by simpa using hjl) h1 h2 Z ⟨Y,p⟩ ⟨h5,p'⟩ (by simp[n3,Ne.symm a1]) (by simp[n4,Ne.symm b1]) (by simp[n8,Ne.symm a3]) (by simp[n9,Ne.symm b3]) (by simp[a9,Ne.symm b4]) (by simp[Ne.symm a9,Ne.symm a5]) (Ne.symm n3) (Ne.symm n4) (Ne.symm n2) n8 n9 λg tk x' y' px py gz gTO gu g1 g2 kp=>?_) (F.args_zip_next_1 _))))
  have ex:x'=u:=by have q:a0.toArray[i]? = some x':=px;rw[A21,hu] at q;exact(A10 q).symm
  have ey:y'=v:=by have q:a6.toArray[i]? = some y':=py;rw[A21,hv] at q;exact(A10 q).symm
  subst ex ey;refine A07 ⟨_,rfl,wpAny_letOwnedTupleGo_zip gz λg' gz' hs'=>?_⟩;have hTn:H s.heap.objs.size=none:=I.hok.fresh (A0B _)
  have I1:Inv X pins σ (upd H s.heap.objs.size (.tup [x,y])) {s with heap:=s.heap.push {cls:=.type "tuple",data:=.seq #[x',y']}}:=
   I.laid (t':=s.toks) (λb ob q=>Heap.get?_push_of_some _ q) (Nat.le_refl _) ⟨by simp[sizeLine_eq],[x',y'],.cons ru (.cons rv2 .nil),_,Heap.get?_push_size _ rfl,rfl,⟨_,rfl⟩,rfl⟩
  have nT:∀ q∈[c,TI,TO,i1,i2],q≠s.heap.objs.size:=λq U=>by simp only[List.mem_cons,List.not_mem_nil,or_false] at U;rcases U with rfl|rfl|rfl|rfl|rfl<;>exact A0N (by assumption)
  have up:∀ q o,q≠c->g.get? q=some o->g'.get? q=some o:=λq o U e=>hs'.extBut q o U e;have I2:Inv X pins σ (upd H s.heap.objs.size (.tup [x,y])) {s with heap:=g',toks:=tk}:=Inv.turnedL (s:={s with heap:=s.heap.push {cls:=.type "tuple",data:=.seq #[x',y']}}) (ch:=[c,TI,TO,i1,i2]) I1 (λq ob U e=>?_) (λq U=>?_)
  . refine⟨.ref s.heap.objs.size,_,I2,rfl,⟨_,x,y,hTn,rfl,rfl,λzs hz=>by rw[I.tuple_inj hz a7];exact hx,λzs hz=>by rw[I.tuple_inj hz a8];exact hy⟩,⟨gz',up _ _ (Ne.symm n1) (kp _ _ (Ne.symm n1) n6 n7 n5 h2),⟨_,_,up _ _ (Ne.symm n2) gTO⟩,g1.1.at λo q=>up _ _ (Ne.symm n3) q,g2.1.at λo q=>up _ _ (Ne.symm n4) q⟩,λq U=>?_⟩;rw[Ay (nT q U)];exact(hf q U).1
  . simp only[List.mem_cons,List.not_mem_nil,or_false,not_or] at U;rcases A4V e with ⟨rfl,rfl⟩|e
    . exact up _ _ (A2O hcl) gu
    exact up _ _ U.1 (kp q ob U.1 U.2.2.2.1 U.2.2.2.2 U.2.2.1 e)
  obtain⟨f0,f1,f2,f3,f4,f5⟩:=hf q U;exact⟨by rw[Ay (nT q U)];exact f0,f1,f2,f3,f4,f5⟩
 done:=by
  intro X hP hw hK hc i pins s σ H E I hf st hg;subst hP hw hK;obtain⟨nd,na,nb⟩:=O;simp only[List.nodup_cons,List.mem_cons,List.not_mem_nil,or_false,not_or,List.nodup_nil,and_true,not_false_eq_true] at nd na nb;obtain⟨⟨n1,n2,n3,n4⟩,⟨n5,n6,n7⟩,⟨n8,n9⟩,a9⟩:=nd;obtain⟨a1,a2,a3,a4,a5⟩:=na;obtain⟨b1,b2,b3,b4,b5⟩:=nb;obtain⟨xs,ys,a7,a8,aA⟩:=hg;obtain⟨a0,rv,p,hz⟩:=I.tuple a7;obtain⟨a6,aB,p',hz'⟩:=I.tuple a8;have hd:X.A.in1.handled=none:=by simpa using I.ok.hd hc
  have D1:=Oc (prog:=X.prog) (w:=X.w) hd i1 a a4 a0.toArray;have D2:=Oc (prog:=X.prog) (w:=X.w) hd i2 b b5 a6.toArray;obtain⟨h1,h2,⟨u0,v0,Z⟩,Y,h5⟩:=st;have hT:s.TypeIs (.ref c) "zip":=⟨_,h1,rfl⟩;have hxl:=rv.length;have hyl:=aB.length;unfold pyNext;rcases aA with aA|⟨hlt,aA⟩
  . have hsz:a0.toArray.size=i:=by rw[A0E];omega
    rw[hsz] at D1;refine wpAny_bind (wpAny_attempt (wpAny_callSpecial?_slot (name:=Str.ofString "__next__") hT F.slot_zip_next (wpAny_call_entry F.slot_zip_next hT F.entry_zip_next (Ue D1 h1 h2 ⟨Y,p⟩ (by simp[n3,Ne.symm a1]) (Ne.symm n3) λg e kp he=>?_) (F.args_zip_next_1 _))));refine A02 (A37 (T:="StopIteration") (b:=true) he A51 ?_);exact wpAny_pure ⟨rfl,I.turnedL (t':=s.toks) (ch:=[c,TI,TO,i1,i2]) (λq o U e=>kp q o (λz=>U (by simp[z])) (λz=>U (by simp[z])) e) hf⟩
  have hsz:a6.toArray.size=i:=by rw[A0E];omega
  have hsx:i<a0.toArray.size:=by rw[A0E];omega
  subst hsz;refine wpAny_bind (wpAny_attempt (wpAny_callSpecial?_slot (name:=Str.ofString "__next__") hT F.slot_zip_next (wpAny_call_entry F.slot_zip_next hT F.entry_zip_next (aG4 D1 D2 hsx h1 h2 Z ⟨Y,p⟩ ⟨h5,p'⟩ (by simp[n3,Ne.symm a1]) (by simp[n4,Ne.symm b1]) (by simp[n9,Ne.symm b3]) (by simp[a9,Ne.symm b4]) (Ne.symm n3) (Ne.symm n4) (Ne.symm n2) n8 λg tk e kp he=>?_) (F.args_zip_next_1 _))));refine A02 (A37 (T:="StopIteration") (b:=true) he A51 ?_);exact wpAny_pure ⟨rfl,I.turnedL (t':=tk) (ch:=[c,TI,TO,i1,i2]) (λq o U e=>kp q o (λz=>U (by simp[z])) (λz=>U (by simp[z])) (λz=>U (by simp[z])) (λz=>U (by simp[z])) e) hf⟩
 self:=by intro A i s Q E st hQ;exact A4H st.1 hQ
section
variable {X:Cx}{K:W.Frag}
def aB0 (K:W.Frag)(vs:List V)(H:Hp)(R:It->Hp->Prop):Prop:=∃ a b xs ys,vs=[.ref a,.ref b]/\SqT K H a xs/\SqT K H b ys/\R (Itz K a b) H
def aG8 (K:W.Frag)(ta:TA):TI:=fun σ H R=>ta σ H λvs H1=>aB0 K vs H1 R
def Oj (m a b:Nat)(ha:a<m)(F:b<m):Yw (m+4) (m+2) (m+3) m (m+1) a b:=by
 have O:([m+4,m+2,m+3,m,m+1]:List Nat).Nodup:=by simp only[List.nodup_cons,List.mem_cons,List.not_mem_nil,or_false,not_or,List.nodup_nil,and_true,not_false_eq_true];omega
 have out:∀ c:Nat,c<m->c∉([m+4,m+2,m+3,m,m+1]:List Nat):=λc U=>by simp only[List.mem_cons,List.not_mem_nil,or_false,not_or];omega
 exact⟨O,out a ha,out b F⟩
theorem a96 {Y U:Expr}{ta:TA}{p pos:Pos}{a3:List Expr}{ek:Nat}{a4:Pos}(hg:Gl X "zip")(hm:X.mg "zip" = none)(ha:PA X [Y,U] ta)(hK:X.K=K:=by ac_nf)
 (a8:starEach [Y,U] X.env=(false,eval Y X.env) :: starEach [U] X.env:=by ac_nf) (a7:(backTo pos (starEach [U] X.env)).any (·.1)=false:=by ac_nf) :
 PI X (.Tuple a3 ek a4) (.Call (.Name "zip" p) [Y,U] [] pos) (aG8 K ta):=by
 subst hK;intro pins s σ H R I h;refine Call_ (Kh I hg hm PyProof.Rows.Boot.«zip» (A1V (thn (ha pos pins s σ H _ I h) λus F ⟨vs,H1,O,r1,q1⟩=>?_) a8 a7));obtain⟨a,b,xs,ys,rfl,hA,hB,q⟩:=q1;obtain⟨u1,u2,rfl,ra,rb⟩:=Vals.two r1
 cases ra
 cases rb;obtain⟨ks,rk,a1,_⟩:=O.tuple hA;obtain⟨vs,rv,a2,_⟩:=O.tuple hB;have a5:a<F.heap.objs.size:=let ⟨_,q,_⟩:=a1;A09 q;have a6:b<F.heap.objs.size:=let ⟨_,q,_⟩:=a2;A09 q;refine Wd a1 a2 λg Z g3 g4 g1 g2 z5 kp=>?_;refine A4H Z ?_;refine⟨F.heap.objs.size+4,_,_,_,H1,rfl,O.kept (t':=F.toks) kp,a36 (F.heap.objs.size+4) (F.heap.objs.size+2) (F.heap.objs.size+3) F.heap.objs.size (F.heap.objs.size+1) a b (Oj _ _ _ a5 a6),⟨Z,g3,⟨_,_,g4⟩,⟨_,g1,rfl,rfl⟩,⟨_,g2,rfl,rfl⟩⟩,λc hc=>?_,q⟩
 have a0:F.heap.objs.size<=c:=by
  simp only[List.mem_cons,List.not_mem_nil,or_false] at hc;rcases hc with rfl|rfl|rfl|rfl|rfl
  . exact A38 _ _
  . exact A38 _ _
  . exact A38 _ _
  . exact A0B _
  exact A39 _
 exact O.fpOk a0 (O.hok.fresh a0)
end
section
variable {K:W.Frag}{σ:St}
def ab8 {ts:TA}{R:It->Hp->Prop}(k:ts σ H λvs H1=>aB0 K vs H1 R):aG8 K ts σ H R:=k
theorem a73 {ys:List V}{f:Nat->Bool}{te:TE}{js:List Nat}(hA:SqT K H a xs)(hB:SqT K H b ys)(hz:xs.length<=1000000)
 (hs:∀(i:Nat) x y H1 (R:VK),xs[i]? = some x->ys[i]? = some y->Same H H1->(∀ H2,Same H1 H2->R (.bl (f i)) H2)->te (((List.replicate 2 none++Mm σ js).set 0 (some x)).set 1 (some y)) H1 R)
 (hd:∀ p H',H p=none->Same H H'->H' p=some (.lst (((List.range (min xs.length ys.length)).map f).map V.bl))->Q (.ref p) H') :
 aB0 K [.ref a,.ref b] H λJ H1=>Kw 2 js (ab4 K 2 (M8 (Ht 0) (M8 (Ht 1) ae6))) W1 te σ J H1 Q:=by
 refine⟨a,b,xs,ys,rfl,hA,hB,λp U=>⟨λi m H'=>m=min xs.length ys.length-i/\i<=min xs.length ys.length/\Same H H'/\H' p=some (.lst (((List.range i).map f).map V.bl)),⟨min xs.length ys.length,by simp,Nat.zero_le _,Same.upd U,Aj⟩,?_⟩⟩;rintro i m H' ⟨rfl,hi,e,a0⟩;have ga:=e.seqT hA;have F:=e.seqT hB
 by_cases a3:i<min xs.length ys.length
 . have hx:xs[i]? = some xs[i]:=A00 (by omega);have hy:ys[i]? = some ys[i]:=A00 (by omega);refine .inr ⟨⟨_,_,_,_,ga,F,hx,hy⟩,λH2=>i+1<=min xs.length ys.length/\Same H H2/\H2 p=some (.lst (((List.range (i+1)).map f).map V.bl)),λH2 O=>⟨min xs.length ys.length-(i+1),by omega,rfl,O.1,O.2.1,O.2.2⟩,λv H2 y=>?_⟩;obtain⟨t,x,y,Y,rfl,rfl,a4,a6⟩:=y;have a5:=a4 _ ga;have a7:=a6 _ F;refine⟨t,_,rfl,SqT.of Aj,rfl,x,[y],rfl,y,[],rfl,rfl,?_⟩;refine hs i x y _ _ a5 a7 (e.trans (Same.upd Y)) λH3 Z=>?_;have a1:H3 p=some (.lst (((List.range i).map f).map V.bl)):=Z _ _ (Same.upd Y _ _ a0);refine⟨_,a1,by rw[A01,A01,A1S,A0T];omega,a3,((e.trans (Same.upd Y)).trans Z).off U ExtBut.upd,?_⟩;rw[Aj,List.range_succ,A0R,A0R];rfl
 have a2:i=min xs.length ys.length:=by omega
 subst a2;exact .inl ⟨⟨_,_,ga,F,by omega⟩,hd p H' U e a0⟩
theorem ah6 {ys:List V}{n m:Nat}{tb:TS}{D:Ends}(U:SqT K H a xs)(Y:SqT K H b ys)(Pv:Nat->St->Hp->Prop)(O:Pv 0 σ H)(Z:∀ i σ' H',Pv i σ' H'->SqT K H' a xs/\SqT K H' b ys)
 (hs:∀ i x y σ' H' H2,xs[i]? = some x->ys[i]? = some y->Pv i σ' H'->Same H' H2->tb {D with nx:=Pv (i+1),ct:=Pv (i+1),bk:=D.nx} ((σ'.set n (some x)).set m (some y)) H2) (hd:∀ σ' H',Pv (min xs.length ys.length) σ' H'->D.nx σ' H') :
 aB0 K [.ref a,.ref b] H λJ H1=>ak3 (ab4 K 2 (M8 (Ht n) (M8 (Ht m) ae6))) tb D σ J H1:=by
 refine⟨a,b,xs,ys,rfl,U,Y,λi k σ' H'=>k=min xs.length ys.length-i/\i<=min xs.length ys.length/\Pv i σ' H',⟨_,rfl,A1W _,O⟩,?_⟩;rintro i k σ' H' ⟨rfl,hi,p⟩;obtain⟨ga,F⟩:=Z i σ' H' p
 by_cases a0:i<min xs.length ys.length
 . refine .inr ⟨⟨xs,ys,xs[i]'(by omega),ys[i]'(by omega),ga,F,A00 _,A00 _⟩,Pv (i+1),fun σ2 H2 p2=>⟨_,by omega,rfl,a0,p2⟩,λv H2 y=>?_⟩;obtain⟨t,x,y,ht,rfl,rfl,hx,hy⟩:=y;exact⟨t,_,rfl,SqT.of Aj,rfl,x,[y],rfl,y,[],rfl,rfl,hs i x y σ' H' _ (hx xs ga) (hy ys F) p (Same.upd ht)⟩
 have e:i=min xs.length ys.length:=by omega
 subst e;exact .inl ⟨⟨xs,ys,ga,F,by omega⟩,hd σ' H' p⟩
end
section
variable {X:Cx}{K:W.Frag}
end
theorem W4 (a:Addr)(F:Array Value)(n:Nat)(b:Addr)(more:Array Value)(m:Nat)(U:Array (Option Value))(h0:¬(!F.isEmpty&&Builtin.List.listTooLong (F.size+more.size))=true)(h1:F.size<=sizeLine)(h2:F.size+more.size<=sizeLine+1) :
 Meets (Builtin.«list.extend» ⟨[.ref a,.ref b],[]⟩) (λ_ R s=>s.heap.get? a=some {cls:=.type "list",data:=.seq F n}/\s.heap.get? b=some {cls:=.type "tuple",data:=.seq more m,slots:=U}/\R (.ok (.ret Value.none)) {s with heap:=s.heap.update a (Obj.mapSeq λx=>x++more)}):=by
 refine .of_wp λprog w A R s h=>?_;obtain⟨hp,g,Y,tk,os⟩:=s;obtain⟨ha,O,h⟩:=h;have Z:=sub_tuple_tuple;have f3:=sub_list_list;have f4:=sub_tuple_list;have f5:=sub_list_tuple;have hz:(F++more).size<=sizeLine+1:=by rw[Array.size_append];exact h2
 wp_walk using (wpAny_updateSeq ha rfl (hz:=h1) (_hz':=hz)),A40 ha,A40 O
 exact⟨_,rfl,h⟩
section
variable {X:Cx}{K:W.Frag}
def aq0 (K:W.Frag):V->List V->Hp->VK->Prop:=λx vs H Q=>Ss x vs H Q\/∃ l b xs zs,x = .ref l/\vs=[.ref b]/\H l=some (.lst xs)/\SqT K H b zs/\xs.length+zs.length<=sizeLine/\Q .non (upd H l (.lst (xs++zs)))
theorem Vv (hK:X.K=K:=by ac_nf):MtM X "list.extend" (aq0 K):=by
 subst hK;intro pins s σ H x vs v us Q I rx rv h;rcases h with h|h
 . exact Nj pins s σ H x vs v us Q I rx rv h
 obtain⟨l,b,xs,zs,rfl,rfl,hH,hB,hz,q⟩:=h
 cases rx;obtain⟨u,rfl,ru⟩:=rv.one
 cases ru;obtain⟨z,O,n,r,hl,e⟩:=I.lstM hH;obtain⟨U,r2,⟨o,Y,g2,m,g3⟩,a1⟩:=I.tuple hB;obtain⟨ob,Z,g4⟩:=I.tupleN hB;rw[Y] at Z
 cases Z;obtain⟨cl,dc,da,sl⟩:=o
 cases g2
 cases g3
 cases g4;have l1:=r.length;have l2:=r2.length;have hsz:O.toArray.size+U.toArray.size<=sizeLine:=by rw[A0E,A0E];omega
 have a0:¬ (!O.toArray.isEmpty&&Builtin.List.listTooLong (O.toArray.size+U.toArray.size))=true:=by rw[P9 hsz,A50];exact A0C
 refine A3M F.slot_list_extend ⟨_,e,rfl⟩ F.entry_list_extend (F.args_list_extend_2 _ _) (W4 l O.toArray n b U.toArray m sl a0 (by omega) (by omega)) ⟨e,Y,?_⟩;refine⟨.non,_,I.lset (its':=O++U) hH e (by simp) (r.append r2) ?_,rfl,q⟩;rw[A08];omega
def aA8 {l:Addr}{zs:List V}(h:H l=some (.lst xs))(F:SqT K H b zs)(hz:xs.length+zs.length<=1000000)(k:∀ H',ExtBut l H H'->H' l=some (.lst (xs++zs))->Q .non H'):aq0 K (.ref l) [.ref b] H Q:=
 .inr ⟨l,b,xs,zs,rfl,rfl,h,F,Ak hz,k _ ExtBut.upd Aj⟩
end
section
variable {α:Type}[DecidableEq α]
end
section
variable {X:Cx}{pins:List (Addr×Obj)}{σ:List (Option V)}{s:Shared}{h':Heap}
variable {K:W.Frag}
end
section
variable {α:Type}[DecidableEq α]
end
section
variable {α:Type}[DecidableEq α]
variable {β:Type}[DecidableEq β]
end
section
variable {X:Cx}{k:Nat}{x:Str}{ps:List Str}{sp:Sp}{e:Expr}{es:List Expr}{t:TA}{p pos:Pos}{E:St->XK}
end
section
variable {X:Cx}{pins:List (Addr×Obj)}
end
section
variable {α:Type}[DecidableEq α]
end
section
variable {ns ns':List Str}{ps ps':List (Str×Str)}
variable {qs:List (Str×Str)}
end
section
variable {M:Model}{A:Around}{E:Value->Shared->Prop}{s:Shared}{base:Heap}{env:Env}{outer:List Env}{L:Addr}{oe:Obj}{vs:Array Value}{Q:Unit->Shared->Prop}
end
section
variable {w:World}{fs:List Addr}{C:Addr}{od:Option Addr}{oe:Obj}{old:List Addr}{h h':Heap}{n:Bool}
end
section
variable {w:World}{K:W.Frag}{mg:Str->Option Value}{base:Heap}{N:List Str}{qual:Str}{scope:Scope}{f:Addr}{cd:Value}{A:Around}{outer:List Env}{s₀:Shared}{H₀:Hp}{E:XK}
end
section
variable {X:Cx}{scope:Scope}{xs fr:List Str}{pins:List (Addr×Obj)}{σ:St}{s:Shared}{js:List Nat}{fp:List Addr}
end
section
variable {X:Cx}{k:Nat}{C:Addr}{m:Str}{ps:List Str}{sp:Sp}{e o:Expr}{es:List Expr}{ta:TE}{t:TA}{p pos apos:Pos}{E:XK}
end
section
variable {σ:St}{C:Addr}{m:Str}{sp:Sp}{ta:TE}{t:TA}{E:XK}
end
section
variable {w:World}{K:W.Frag}{mg:Str->Option Value}{base:Heap}
end
section
variable {X:Cx}{k:Nat}{x:Str}{ps:List Str}{sp:Sp}{e:Expr}{es:List Expr}{t:TA}{p pos:Pos}
end
section
variable {X:Cx}
end
section
variable {α:Type}[DecidableEq α]{b:α->α->Bool}
end
section
variable {X:Cx}{K:W.Frag}
end
section
variable {K:W.Frag}{σ:St}
end
section
variable {K:W.Frag}{H':Hp}{x:V}{ns:List Str}{σ:St}
end
section
variable {ns A B:List Str}{pA pB S:List (Str×Str)}
end
section
variable {prog:Program}{w:World}{A:Around}{E:Value->Shared->Prop}{s:Shared}{Q:Value->Shared->Prop}
end
section
variable {X:Cx}{pins:List (Addr×Obj)}{σ:List (Option V)}{s:Shared}{h':Heap}
end
section
variable {X:Cx}{K:W.Frag}
end
section
variable {ns A B:List Str}{pA pB S:List (Str×Str)}
end
section
variable {prog:Program}{w:World}{A:Around}{E:Value->Shared->Prop}{s:Shared}{Q:Value->Shared->Prop}
end
section
variable {X:Cx}{pins:List (Addr×Obj)}{σ:List (Option V)}{s:Shared}{h':Heap}
end
section
variable {X:Cx}{pins:List (Addr×Obj)}{σ:List (Option V)}{s:Shared}
def Qq {w:World}{h:Heap}(hok:HOk P w H h)(r:Rd H a (.dK kvs)):(∃ F,H a=some F)/\ObjOk P w H h a (.dK kvs):=by
 rcases r with e|⟨o,e⟩
 . exact⟨⟨_,e⟩,hok _ _ e⟩
 exact⟨⟨_,e⟩,(hok _ _ e).2⟩
end
def szW (ns:List Str)(ps:List (Str×Str))(x:Str):Nat:=(ns.filter λy=>Ck ps x y).length
section
variable {ns row:List Str}{ps:List (Str×Str)}
def X7 (h:HalfW ns ps)(x:Str):Ck ps x x=false:=by
 cases e:Ck ps x x with
 |false=>rfl
 |true=>exact absurd (wayB_iff.mp e) (h.irr x)
end
section
variable {X:Cx}
def az8:List V->Hp->VK->Prop:=λxs H Q=>∃ a kvs,xs=[V.ref a]/\Rd H a (.dK kvs)/\Q (.int kvs.length) H
def Ft:CallR X (.builtin "len") az8:=by
 intro pins s σ H xs us Q I r h;obtain⟨a,kvs,rfl,ha,q⟩:=h;obtain⟨u,rfl,ru⟩:=Jq r
 cases ru;obtain⟨⟨Y,U⟩,hz,hs,vs,O,F⟩:=Qq I.hok ha;have hl:=O.length;refine call_len_dict hs F (by rw[A0T] at hz;omega) ?_;rw[<- hl];exact⟨.int kvs.length,H,I.tok _,⟨_,rfl⟩,q⟩
def R8 (h:Rd H a (.dK kvs))(k:Q (.int kvs.length) H):az8 [.ref a] H Q:=⟨a,kvs,rfl,h,k⟩
end
section
variable {prog:Program}{w:World}{A:Around}{E:Value->Shared->Prop}{s:Shared}
end
section
variable {X:Cx}{K:W.Frag}
end
section
variable {ps ps':List (Str×Str)}
end
section
variable {X:Cx}{k:Nat}{C:Addr}{x:Str}{ps:List Str}{sp:Sp}{e:Expr}{es:List Expr}{t:TA}{p pos:Pos}{E:XK}
end
section
variable {C:Addr}{sp:Sp}{t:TA}{σ:St}{E:XK}
end
def xF (K:W.Frag)(C B:Addr)(hf i0:Bool)(fs:List Str):Bool:=
 ai3 K C&&(W.findIn K (.ref C) "__setattr__" == some (some (.builtin "object.__setattr__")))&&(W.findIn K (.ref C) "__getattribute__" == some (some (.builtin "BaseException.__getattribute__"))) &&
 (W.findIn K (.ref C) "__getattr__" == some none)&&(W.findIn K (.ref C) "__class__" == some (some (.builtin "object.__class__")))&&(hf||Nz K C B)&&W.keepIn K (.ref C)&&(!i0||a60 K C)&&fs.all λf=>W.findIn K (.ref C) f==some none
section
variable {K:W.Frag}{C B:Addr}{hf i0:Bool}{fs:List Str}
theorem Ry (h:xF K C B hf i0 fs=true):ai3 K C=true/\W.findIn K (.ref C) "__setattr__" = some (some (.builtin "object.__setattr__"))/\W.findIn K (.ref C) "__getattribute__" = some (some (.builtin "BaseException.__getattribute__"))/\W.findIn K (.ref C) "__getattr__" = some none/\W.findIn K (.ref C) "__class__" = some (some (.builtin "object.__class__"))/\(hf=true\/Nz K C B=true)/\W.keepIn K (.ref C)=true/\(i0=true->a60 K C=true)/\∀ f∈fs,W.findIn K (.ref C) f=some none:=by unfold xF at h;simp only[Bool.and_eq_true,beq_iff_eq,Bool.or_eq_true,List.all_eq_true] at h;obtain⟨⟨⟨⟨⟨⟨⟨⟨h1,h2⟩,O⟩,U⟩,Y⟩,Z⟩,h7⟩,F⟩,h9⟩:=h;exact⟨h1,h2,O,U,Y,Z,h7,λz=>by rw[z] at F;simpa using F,h9⟩
def xF.xc (h:xF K C B hf i0 fs=true)(cg:W.specialIn K (.builtin "object.__class__") "__get__" = some (some (.builtin "getset_descriptor.__get__")))(ct:W.takesIn K (.builtin "object.__class__")=some true):XC K C:=
 let ⟨h1,h2,h3,h4,h5,_⟩:=Ry h;⟨h1,h2,h3,h4,h5,cg,ct⟩
def xF.mr (h:xF K C B false i0 fs=true):Nz K C B=true:=(Ry h).2.2.2.2.2.1.resolve_left (λz=>by cases z)
def xF.kp (h:xF K C B hf i0 fs=true):W.keepIn K (.ref C)=true:=(Ry h).2.2.2.2.2.2.1
def xF.no (h:xF K C B hf true fs=true):a60 K C=true:=(Ry h).2.2.2.2.2.2.2.1 rfl
def xF.n (h:xF K C B hf i0 fs=true) {f:Str} (hf:f∈fs):Hb K C f:=(Ry h).2.2.2.2.2.2.2.2 f hf
end
theorem S9 {α:Type}{p q r:α->Bool}:∀ {l:List α},(∀ a∈l,(p a=true/\q a=false/\r a=false)\/(p a=false/\q a=true/\r a=false)\/(p a=false/\q a=false/\r a=true))->(l.filter p).length+(l.filter q).length+(l.filter r).length=l.length
 | [],_=>rfl
 |a :: l,h=>by have U:=S9 (l:=l) λb O=>h b (A0I _ O);rcases h a (List.mem_cons_self ..) with ⟨h1,h2,F⟩|⟨h1,h2,F⟩|⟨h1,h2,F⟩<;>simp only[List.filter_cons,h1,h2,F,if_true,Bool.false_eq_true,if_false,List.length_cons]<;>omega
theorem aA1 {ps:List (Str×Str)}(irr:∀ x,Ck ps x x=false)(U:∀ x y,Ck ps x y=true->Ck ps y x=false):∀ ns:List Str,2*(ns.map λx=>(ns.filter λy=>Ck ps x y).length).sum+2*(unP ns ps).length=ns.length*(ns.length-1)
 | []=>rfl
 |a :: t=>by
   have F:=aA1 irr U t
   have Y:(t.filter λy=>Ck ps a y).length+(t.filter λy=>Ck ps y a).length+(t.filter λy=>unB ps a y).length=t.length:=S9 λy _=>by
    unfold unB
    cases O:Ck ps a y with
    |true=>rw[U _ _ O];simp
    |false=>cases e2:Ck ps y a<;>simp
   have hs:(t.map λx=>((a :: t).filter λy=>Ck ps x y).length).sum=(t.map λx=>(t.filter λy=>Ck ps x y).length).sum+(t.filter λy=>Ck ps y a).length:=by
    have Z:∀ l:List Str,(l.map λx=>((a :: t).filter λy=>Ck ps x y).length).sum=(l.map λx=>(t.filter λy=>Ck ps x y).length).sum+(l.filter λy=>Ck ps y a).length:=λl=>by
     induction l with
     |nil=>rfl
     |cons b l F=>
       rw[A0P,A26,F,A0P,A26,A1J (xs:=t),A1J (xs:=l)]
       cases Ck ps b a<;>simp<;>omega
    exact Z t
   rw [A0P,A26,hs,Vb,A1J,irr a,A0X,A5D];simp only[Bool.false_eq_true,if_false]
   cases hl:t.length with
   |zero=>rw[hl] at F Y;simp only[Nat.zero_mul] at F;omega
   |succ n=>
     rw[hl] at F Y;simp only[Nat.add_sub_cancel] at F
     have O:(n+1+1)*(n+1)=(n+1)*n+2*(n+1):=by rw[Nat.add_mul (n+1) 1,Nat.mul_add,Nat.mul_one];omega
     rw[O];omega
section
variable {w:World}{K:W.Frag}{mg:Str->Option Value}{base:Heap}{A:Around}{outer:List Env}{s:Shared}
end
section
variable {X:Cx}{pins:List (Addr×Obj)}{σ:List (Option V)}{s s':Shared}
end
section
variable {X:Cx}{pins:List (Addr×Obj)}{σ:List (Option V)}{s:Shared}
end
def drop (H:Hp)(a:Addr):Hp:=λb=>if b=a then none else H b
section
variable {X:Cx}{k:Nat}{x:Str}{ps:List Str}{sp:Sp}{e:Expr}{es:List Expr}{t:TA}{p pos:Pos}
end
section
variable {prog:Program}{w:World}{A:Around}{E:Value->Shared->Prop}{s:Shared}
end
section
variable {X:Cx}{K:W.Frag}
end
section
variable {K:W.Frag}{H':Hp}{rows rs:List (List Str)}{ys zs:List V}{r:List Str}
end
section
variable {M:Model}{A:Around}{E:Value->Shared->Prop}{s:Shared}
end
section
variable {M:Model}{A:Around}{E:Value->Shared->Prop}{s:Shared}{kd:SortKind}{rk:Value->Nat}{V:Value->Prop}
section
variable {a b out:Array Keyed}{ia ib n:Nat}{x y:Keyed}
end
end
section
variable {M:Model}{A:Around}{E:Value->Shared->Prop}{s:Shared}{kd:SortKind}{rk:Value->Nat}{V:Value->Prop}
section
variable {a b out:Array Keyed}{m n:Nat}{x y:Keyed}
end
end
section
variable {M:Model}{A:Around}{E:Value->Shared->Prop}{s:Shared}{kd:SortKind}{rk:Value->Nat}{V:Value->Prop}
end
section
variable {M:Model}{A:Around}{E:Value->Shared->Prop}{s:Shared}{kd:SortKind}{rk:Value->Nat}{V:Value->Prop}{L:List Keyed}
end
section
variable {prog:Program}{w:World}{A:Around}{E:Value->Shared->Prop}{z:Shared}
end
section
variable {X:Cx}{K:W.Frag}
end
section
variable {X:Cx}{K:W.Frag}{e:Expr}{ta:TE}
end
def KD (P:Program)(w:World)(K:W.Frag)(a:Addr)(kvs:List (Key×V)):Prop:=
 (a==sysModules)=false/\∃ vs,KV kvs vs/\∀ h:Heap,K.In h->h.DictOf (Ax P w) a vs
theorem KD.of {w:World}{K:W.Frag}{o:Obj}{es:Array DictEntry}{F:Nat}{vs:List (Key×Value)}(hs:(a==sysModules)=false)(hl:K.lookup a=some o)(hx:o.ExactDict)(hd:o.data = .dict es F)
 (O:Pairs (Ax P w) es.toList vs) (Z:∀(i:Nat) e q,es.toList[i]? = some e->vs[i]? = some q->e.hash=(Ax P w).hash q.1) (hn:(vs.map (·.1)).Nodup) (hv:KV kvs vs):KD P w K a kvs:=
 ⟨hs,vs,hv,λh U=>⟨o,es,F,U a o hl,hx,hd,λe Y=>by
  obtain⟨i,hi⟩:=A4Y (Array.mem_toList_iff.mpr Y)
  have go:∀ {l:List DictEntry} {m:List (Key×Value)},Pairs (Ax P w) l m->∀ {i:Nat} {e:DictEntry},l[i]? = some e->∃ q,m[i]? = some q/\(Ax P w).is q.1 e.key=true:=by
   intro l m hq
   induction hq with
   |nil=>intro i e h;cases h
   |cons h1 h2 h3 ih=>
     intro i e h
     cases i with
     |zero=>cases h;exact⟨_,rfl,h1⟩
     |succ i=>exact ih h
  obtain⟨q,h1,h2⟩:=go O hi;exact⟨q.1,h2,Z i e q hi h1⟩,O,hn⟩⟩
def al9 (a:Addr)(kvs:List (Key×V)):R2:=λx y H Q=>∃ k v,x = .ref a/\y=kV k/\Gq kvs k=some v/\Q v H
def af1 (a:Addr)(kvs:List (Key×V))(F:Bool):R2:=λx y H Q=>∃ k,y = .ref a/\x=kV k/\Q (.bl (if F then !(Gq kvs k).isSome else(Gq kvs k).isSome)) H
section
variable {X:Cx}
def aF5 (d:KD X.prog X.w X.K a kvs):IxR X (al9 a kvs):=by
 intro value a0 pins s σ H x y v u Q I Z ry h hs;obtain⟨k,z,rfl,rfl,e,q⟩:=h
 cases Z;obtain⟨hm,vs,U,hd⟩:=d;have O:=hd _ I.kIn;obtain⟨w',hw,Y⟩:=RelO.some_of (v:=z) (o:=valueAt vs k) (by rw[<- e];exact U.val k);exact tail_any O.typeIs PySem.F.slot_dict_getitem.lookup (wpAny_getItem_of (Ha ry) O.mapOf hw ⟨z,H,I.tok _,Y,q⟩) hs
def Vo (d:KD X.prog X.w X.K a kvs):OpR X (compareOp .NotIn) (af1 a kvs true):=by
 intro pins s σ H x y v u Q I O U h;obtain⟨k,rfl,rfl,q⟩:=h
 cases U;obtain⟨hm,vs,F,hd⟩:=d;refine wpAny_notIn_of (Ha O) hm (hd _ I.kIn).mapOf ?_;rw[<- (F.val k).isSome_eq];exact⟨.bl _,H,I.tok _,rfl,q⟩
variable {w:World}{K:W.Frag}
def a97 (d:KD P w K a kvs)(O:X.prog=P:=by ac_nf)(hw:X.w=w:=by ac_nf)(F:X.K=K:=by ac_nf):IxR X (al9 a kvs):=by subst O hw F;exact aF5 d
def Tf (d:KD P w K a kvs)(O:X.prog=P:=by ac_nf)(hw:X.w=w:=by ac_nf)(F:X.K=K:=by ac_nf):OpR X (compareOp .NotIn) (af1 a kvs true):=by subst O hw F;exact Vo d
end
def ac6 {z:Str}{v:V}(e:Gq kvs (Sum.inr z:Key)=some v)(k:Q v H):al9 a kvs (.ref a) (.str z) H Q:=⟨.inr z,v,rfl,rfl,e,k⟩
def am7 {z:Str}(k:Q (.bl (!(Gq kvs (Sum.inr z:Key)).isSome)) H):af1 a kvs true (.str z) (.ref a) H Q:=⟨.inr z,rfl,rfl,k⟩
end L2
namespace L2
open PySem PySem.Spec PyProof.Rows
open Builtin
section
variable {X:Cx}{K:W.Frag}
end
end L2
namespace L2
open PySem PySem.Spec PyProof.Rows
variable {a:Addr}
def Fk (K:W.Frag)(g x qual:Str)(st:Stmt):Prop:=∃ f fd,W.nsIn K mainGlobals g=some (some (.ref f))/\Fun K x qual st f fd
section
variable {P:Program}{w:World}{K:W.Frag}{mg:Str->Option Value}{base h:Heap}{g x qual:Str}{st:Stmt}{k:Nat}{ps:List Str}{sp:Sp}
def fk_mk {f:Addr}{oc:Value}{od an:Option Addr}{osl:Array (Option Value)}{kV O pm F ct:Value}(a:W.nsIn K mainGlobals g=some (some (.ref f)))(l:K.lookup f=some ⟨oc,od,.func (W.fnOf x qual (Cr st) (Cd st) (A8 st) .none kV O pm an F ct),osl⟩)(c:W.codeIn K F qual=true)(e:W.keepIn K (.ref f)=true):Fk K g x qual st:=⟨f,_,a,Yp l c e⟩
def Fk.fnd (j:Fk K g x qual st)(X:K.In h)(G:h.Ns mainGlobals mg)(O:∀ {f fd},Fun K x qual st f fd->Binds K fd ps [])(o:∀ {f fd},Fun K x qual st f fd->mg g=some (.ref f)->W.keepIn K (.ref f)=true->Binds K fd ps []->FnOk P w K mg base CX0 k f fd ps sp):Fnd P w K mg base k g ps sp:=
 let ⟨_,_,a,F⟩:=j
 have m:=A2T X G a
 ⟨_,_,o F m F.kp (O F),m,F.kp,O F⟩
def Fk.fnd1 (j:Fk K g x qual st)(X:K.In h)(G:h.Ns mainGlobals mg)(O:∀ {f fd},Fun K x qual st f fd->Binds K fd ps [])(o:∀ {f fd},Fun K x qual st f fd->mg g=some (.ref f)->W.keepIn K (.ref f)=true->Binds K fd ps []->FnOk P w K mg base (CX1 P w) k f fd ps sp):ap3 P w K mg base k g ps sp:=
 let ⟨_,_,a,F⟩:=j
 have m:=A2T X G a
 ⟨_,_,o F m F.kp (O F),m,F.kp,O F⟩
abbrev Fu (K:W.Frag)(x:Str)(st:Stmt)(f:Addr)(fd:FuncData):Prop:=Fun K x x st f fd
def Fj (K:W.Frag)(x:Str)(st:Stmt):Prop:=Fk K x x x st
theorem Fj.fnd (j:Fj K x st)(X:K.In h)(G:h.Ns mainGlobals mg)(o:∀ {f fd},Fun K x x st f fd->FnOk P w K mg base CX0 k f fd ps sp)(O:∀ {f fd},Fun K x x st f fd->Binds K fd ps []:=by intro _ _ F;first | exact Yb F (by intros;rfl) | exact Yk F (by intros;rfl) | exact Vi F (by intros;rfl) | exact Y7 F (by intros;rfl) | exact binds5 F (by intros;rfl) | exact binds0 F (by intros;rfl)):Fnd P w K mg base k x ps sp:=Fk.fnd j X G O λF _ _ _=>o F
def Fj.fndR (j:Fj K x st)(X:K.In h)(G:h.Ns mainGlobals mg)(o:∀ {f fd},Fun K x x st f fd->mg x=some (.ref f)->W.keepIn K (.ref f)=true->Binds K fd ps []->FnOk P w K mg base CX0 k f fd ps sp)(O:∀ {f fd},Fun K x x st f fd->Binds K fd ps []:=by intro _ _ F;first | exact Yb F (by intros;rfl) | exact Yk F (by intros;rfl) | exact Vi F (by intros;rfl) | exact Y7 F (by intros;rfl) | exact binds5 F (by intros;rfl) | exact binds0 F (by intros;rfl)):Fnd P w K mg base k x ps sp:=Fk.fnd j X G O λF=>o F
theorem Fj.fnd1 (j:Fj K x st)(X:K.In h)(G:h.Ns mainGlobals mg)(o:∀ {f fd},Fun K x x st f fd->FnOk P w K mg base (CX1 P w) k f fd ps sp)(O:∀ {f fd},Fun K x x st f fd->Binds K fd ps []:=by intro _ _ F;first | exact Yb F (by intros;rfl) | exact Yk F (by intros;rfl) | exact Vi F (by intros;rfl) | exact Y7 F (by intros;rfl)):ap3 P w K mg base k x ps sp:=Fk.fnd1 j X G O λF _ _ _=>o F
structure Xo (K:W.Frag)(mg:Str->Option Value)(nm:Str)(C B:Addr):Prop where
 xc:XC K C
 gl:mg nm=some (.ref C)
 mr:Nz K C B=true
def Xk (K:W.Frag)(nm:Str)(C B:Addr):Prop:=W.nsIn K mainGlobals nm=some (some (.ref C))/\xF K C B false false []=true
def Xk.o {nm:Str}{C B:Addr}(j:Xk K nm C B)(X:K.In h)(G:h.Ns mainGlobals mg)(cg:W.specialIn K (.builtin "object.__class__") "__get__" = some (some (.builtin "getset_descriptor.__get__")))(ct:W.takesIn K (.builtin "object.__class__")=some true):Xo K mg nm C B:=⟨xF.xc j.2 cg ct,A2T X G j.1,xF.mr j.2⟩
def zIn (K:W.Frag)(ns:List Str):Bool:=ns.all λn=>match W.nsIn K mainGlobals n with
 |some none=>true
 |_=>false
def Q0 {ns:List Str}(z:zIn K ns=true)(X:K.In h)(G:h.Ns mainGlobals mg){n:Str}(hn:n∈ns):mg n=none:=by
 have:=A0L.mp z n hn
 split at this
 . rename_i e;exact W.mg_none_of X G e
 cases this
end
def J1 (H:Hp)(x:Value):List Str:=match x with
 |.ref a=>match H a with
   |some (.dK kvs)=>kvs.filterMap λkv=>aB9 kv.1
   |some (.frz _ (.dK kvs))=>kvs.filterMap λkv=>aB9 kv.1
   |_=>[]
 |_=>[]
def Im {H:Hp}{ks:List Str}(h:Rd H a (.dK (Em ks))):J1 H (.ref a)=ks:=by unfold J1;rcases h with h|⟨o,h⟩<;>simp only[h]<;>exact Iv ks
def ar3 {H:Hp}{F O:List (Key×V)}(h1:Rd H a (.dK F))(h2:Rd H a (.dK O)):F=O:=by rcases h1 with h|⟨o,h⟩<;>rcases h2 with g|⟨o',g⟩<;>rw[h] at g<;>cases g<;>rfl
section
variable {X:Cx}{pins:List (Addr×Obj)}{σ:St}{H:Hp}{s:Shared}{A:Around}
theorem a71 (I:Inv X pins σ H s){b:Addr}{ks ms:List Str}(h1:Rd H a (.dK (Em ks)))(h2:Rd H b (.dK (Em ms)))(hu:A.units<cLine):EqW X.prog X.w A s (.ref a) (.ref b) (G1 ks ms):=by
 by_cases a1:a=b
 . subst a1
   have e:ks=ms:=by have e1:Em ks=Em ms:=ar3 h1 h2;rw[<- Iv ks,e1,Iv]
   subst e
   have e2:G1 ks ks=true:=by unfold G1;rw[A0W,A0L];exact⟨by simp,λy O=>decide_eq_true O⟩
   rw[e2];exact λE Q q=>SeqAt.EqAt.same (.ref a) X.prog X.w E Q q
 refine Uo a1 λE Q q=>?_;obtain⟨_,n1,v1,r1,d1⟩:=(Qq I.hok h1).2;obtain⟨_,n2,U,r2,d2⟩:=(Qq I.hok h2).2
 have all1:∀ kv∈v1,kv.2 = .bool true:=λkv h=>by obtain⟨p,hp,_,hr⟩:=KV.right r1 kv h;obtain⟨y,_,rfl⟩:=A0A.mp hp;exact hr
 have a5:∀ k y,valueAt U k=some y->y = .bool true:=λk y h=>by
  have F:=KV.val r2 k;rw[h] at F
  cases k with
  |inl i=>
    have:Gq (Em ms) (Sum.inl i:Key)=none:=by
     unfold Gq Em
     rw[List.find?_eq_none.mpr (λkv a0=>by obtain⟨y,_,rfl⟩:=A0A.mp a0;simp)]
     rfl
    rw[this] at F;exact F.elim
  |inr z=>
    rw[G7] at F
    by_cases hz:z∈ms
    . rw[A0K hz] at F;exact F
    rw[A0J hz] at F;exact F.elim
 refine aB6 (λ_ _=>true) n1 n2 d1 d2 hu (λkv a0 y O=>?_) ?_
 . rw[all1 kv a0,a5 _ y O];exact λE Q q=>A4U true true X.prog X.w E Q q
 have e:(decide (v1.length=U.length)&&v1.all (Nu (λ_ _=>true) U))=G1 ks ms:=by
  unfold G1;rw[<- r1.length,<- r2.length,Gc,Gc];congr 1
  have a2:∀ z,Nu (λ_ _=>true) U (Sum.inr z,Value.bool true)=decide (z∈ms):=λz=>by
   have F:=KV.val r2 (Sum.inr z:Key);rw[G7] at F;unfold Nu
   by_cases hz:z∈ms
   . rw[A0K hz] at F
     cases hx:valueAt U (Sum.inr z:Key) with
     |none=>rw[hx] at F;exact F.elim
     |some y=>simp[hz]
   rw[A0J hz] at F
   cases hx:valueAt U (Sum.inr z:Key) with
   |none=>simp[hz]
   |some y=>rw[hx] at F;exact F.elim
  rw[A15,A0L,A0L];constructor
  . intro h y O;obtain⟨u,Y,a4,a7⟩:=KV.left r1 (Sum.inr y,V.bl true) (A0A.mpr ⟨y,O,rfl⟩);have:=h u Y;obtain⟨u1,u2⟩:=u;simp only at a4;subst a4;have Z:u2=Value.bool true:=all1 _ Y;subst Z;rw[<- a2];exact this
  intro h u Y;obtain⟨p,hp,a3,a6⟩:=KV.right r1 u Y;obtain⟨y,O,rfl⟩:=A0A.mp hp;have Z:=all1 u Y;obtain⟨u1,u2⟩:=u;simp only at a3 Z;subst a3 Z;rw[a2];exact h y O
 rw[e];exact q
def al5:R2:=λx y H Q=>∃ r F ns ns' as O R R',x = .ref r/\y = .ref F/\TabR H r ns as R/\TabR H F ns' O R'/\ns.Nodup/\ns'.Nodup/\∀ b,(b=true↔((∀ z,z∈ns↔z∈ns')/\∀ z∈ns,∀ y,R z y↔R' z y))->Q (.bl b) H
theorem N0 (hq:QA X.A):OpR X (compareOp .Eq) al5:=by
 intro pins s σ H x y v u Q I rx ry h;obtain⟨r,r',ns,ns',as,a0,R,R',rfl,rfl,U,O,hn,a2,q⟩:=h
 cases rx
 cases ry;obtain⟨_,n1,v1,r1,d1⟩:=(Qq I.hok U.top).2;obtain⟨_,n2,v2,r2,d2⟩:=(Qq I.hok O.top).2;have aJ:=hq.un
 have a4:∀ kv∈v1,∃(i:Nat) (z:Str) (a:Addr),kv=(Sum.inr z,Value.ref a)/\ns[i]? = some z/\as[i]? = some a:=λkv h=>by
  obtain⟨p,hp,he,hr⟩:=KV.right r1 kv h;obtain⟨p',aG,rfl⟩:=A0A.mp hp;obtain⟨i,hi,e⟩:=A1I aG;rw[List.getElem_zip] at e;rw[List.length_zip] at hi;subst e;obtain⟨k1,k2⟩:=kv;simp only at he hr
  cases he
  cases hr;exact⟨i,_,_,rfl,A00 (by omega),A00 (by omega)⟩
 have a3:∀ z y,valueAt v2 (Sum.inr z:Key)=some y->∃(i:Nat) (b:Addr),y=Value.ref b/\ns'[i]? = some z/\a0[i]? = some b:=λz y h=>by
  have F:=KV.val r2 (Sum.inr z:Key);rw[h] at F
  cases hx:Gq (Eb ns' a0) (Sum.inr z:Key) with
  |none=>rw[hx] at F;exact F.elim
  |some x=>
    rw[hx] at F;obtain⟨i,z',b,e1,rfl,e3,e4⟩:=Qv a2 O.len hx
    cases e1;exact⟨i,b,F,e3,e4⟩
 have aB:∀(i:Nat) z b,ns'[i]? = some z->a0[i]? = some b->valueAt v2 (Sum.inr z:Key)=some (Value.ref b):=λi z b h1 h2=>by
  have F:=KV.val r2 (Sum.inr z:Key);rw[Dz a2 h1 h2] at F
  cases hx:valueAt v2 (Sum.inr z:Key) with
  |none=>rw[hx] at F;exact F.elim
  |some x=>rw[hx] at F;cases F;rfl
 show wpAny _ _ (richCompare .Eq (.ref r) (.ref r')) _ _ _;refine aB6 (λx y=>G1 (J1 H x) (J1 H y)) n1 n2 d1 d2 (by omega) (λkv a1 y Z=>?_) ⟨.bl _,H,I,rfl,q _ ?_⟩
 . obtain⟨i,z,a,rfl,hz,ha⟩:=a4 kv a1;obtain⟨j,b,rfl,aI,Y⟩:=a3 z y Z;obtain⟨ks,hk,_⟩:=U.row i z a hz ha;obtain⟨ms,hm,_⟩:=O.row j z b aI Y;show EqW _ _ _ _ (.ref a) (.ref b) (G1 (J1 H (.ref a)) (J1 H (.ref b)));rw[Im hk,Im hm];exact a71 I hk hm (show X.A.units+1<cLine by omega)
 rw[A0W,A47,A0L,<- r1.length,<- r2.length];have l1:(Eb ns as).length=ns.length:=by unfold Eb;rw[List.length_map,List.length_zip,U.len];omega
 have l2:(Eb ns' a0).length=ns'.length:=by unfold Eb;rw[List.length_map,List.length_zip,O.len];omega
 rw[l1,l2]
 have a5:∀(i:Nat) z a,ns[i]? = some z->as[i]? = some a->(Nu (λx y=>G1 (J1 H x) (J1 H y)) v2 (Sum.inr z,Value.ref a)=true↔z∈ns'/\∀ y,R z y↔R' z y):=λi z a hz ha=>by
  obtain⟨ks,aC,aD,_,a6⟩:=U.row i z a hz ha;unfold Nu
  cases hx:valueAt v2 (Sum.inr z:Key) with
  |none=>
    refine⟨(λh=>by cases h),(λh=>?_)⟩;obtain⟨j,b,hj,Y⟩:=O.at h.1;rw[aB j z b hj Y] at hx
    cases hx
  |some y=>
    obtain⟨j,b,rfl,hj,Y⟩:=a3 z y hx;obtain⟨ms,aE,aF,_,a7⟩:=O.row j z b hj Y;show G1 (J1 H (.ref a)) (J1 H (.ref b))=true↔_;rw[Im aC,Im aE,S8 aD aF];constructor
    . exact λh=>⟨A05 hj,λy=>(a6 y).symm.trans ((h y).trans (a7 y))⟩
    exact λh y=>(a6 y).trans ((h.2 y).trans (a7 y).symm)
 constructor
 . rintro⟨h1,h2⟩
   have h3:∀ z∈ns,z∈ns'/\∀ y,R z y↔R' z y:=λz hz=>by
    obtain⟨i,a,hi,ha⟩:=U.at hz
    obtain⟨u,aH,a8,a9⟩:=KV.left r1 (Sum.inr z,V.ref a) (by refine A0A.mpr ⟨(z,a),?_,rfl⟩;refine A05 (i:=i) ?_;rw[List.getElem?_zip_eq_some];exact⟨hi,ha⟩)
    obtain⟨u1,u2⟩:=u;simp only at a8 a9
    cases a8
    cases a9;exact(a5 i z a hi ha).mp (h2 _ aH)
   exact⟨λz=>⟨λhz=>(h3 z hz).1,Yu hn (λz hz=>(h3 z hz).1) h1 z⟩,λz hz=>(h3 z hz).2⟩
 rintro⟨h1,h2⟩;refine⟨A3F (Be hn λy Z=>(h1 y).mp Z) (Be a2 λy Z=>(h1 y).mpr Z),λkv a1=>?_⟩;obtain⟨i,z,a,rfl,hz,ha⟩:=a4 kv a1;have aA:=A05 hz;exact(a5 i z a hz ha).mpr ⟨(h1 z).mp aA,h2 z aA⟩
end
def aH0 (K:W.Frag)(a b:Addr):It:=
 ⟨λi H=>∃ xs ys x y,SqL K H a xs/\SqL K H b ys/\xs[i]? = some x/\ys[i]? = some y,λi H v H'=>∃ t x y,H t=none/\H'=upd H t (.tup [x,y])/\v = .ref t/\(∀ xs,SqL K H a xs->xs[i]? = some x)/\∀ ys,SqL K H b ys->ys[i]? = some y,λi H=>∃ xs ys,SqL K H a xs/\SqL K H b ys/\(xs.length=i\/(i<xs.length/\ys.length=i))⟩
def ZTnL (c TI TO i1 i2 a b:Addr)(i:Nat)(h:Heap):Prop:=Ll h c TI TO .none false/\IsPair h TI (.ref i1) (.ref i2)/\(∃ u v,IsPair h TO u v)/\h.IsListIter i1 a i/\h.IsListIter i2 b i
theorem Z3 {P:Program}{w:World}{K:W.Frag}{elts:List Expr}{ek:Nat}{epos:Pos}(c TI TO i1 i2 a b:Addr)(O:Yw c TI TO i1 i2 a b):Xu P w K (.Tuple elts ek epos) (aH0 K a b) [c,TI,TO,i1,i2] c (ZTnL c TI TO i1 i2 a b) where
 mem:=by simp
 obj:=λi h st x hx=>by
  obtain⟨h1,h2,⟨u,v,Z⟩,⟨o4,Y,_,d4⟩,⟨o5,h5,_,d5⟩⟩:=st;simp only[List.mem_cons,List.not_mem_nil,or_false] at hx;rcases hx with rfl|rfl|rfl|rfl|rfl
  . exact⟨_,h1,λv z=>by cases z⟩
  . exact⟨_,h2,λv z=>by cases z⟩
  . exact⟨_,Z,λv z=>by cases z⟩
  . exact⟨o4,Y,λv z=>by rw[d4] at z;cases z⟩
  exact⟨o5,h5,λv z=>by rw[d5] at z;cases z⟩
 keep:=λi h h' st k=>by obtain⟨h1,h2,⟨u,v,Z⟩,Y,h5⟩:=st;exact⟨k c (by simp) _ h1,k TI (by simp) _ h2,⟨u,v,k TO (by simp) _ Z⟩,Y.at λo q=>k i1 (by simp) o q,h5.at λo q=>k i2 (by simp) o q⟩
 item:=by
  intro X hP hw hK hc i pins s σ H E I hf st hg;subst hP hw hK;obtain⟨nd,na,nb⟩:=O;simp only[List.nodup_cons,List.mem_cons,List.not_mem_nil,or_false,not_or,List.nodup_nil,and_true,not_false_eq_true] at nd na nb;obtain⟨⟨n1,n2,n3,n4⟩,⟨n5,n6,n7⟩,⟨n8,n9⟩,a9⟩:=nd;obtain⟨a1,a2,a3,a4,a5⟩:=na;obtain⟨b1,b2,b3,b4,b5⟩:=nb;obtain⟨xs,ys,x,y,a7,a8,hx,hy⟩:=hg;obtain⟨a0,rv,p,hz⟩:=I.list a7;obtain⟨a6,aB,p',hz'⟩:=I.list a8;obtain⟨u,hu,ru⟩:=rv.get hx;obtain⟨v,hv,rv2⟩:=aB.get hy;have hil:i<a0.length:=(A03.mp hu).1;have hjl:i<a6.length:=(A03.mp hv).1;have hd:X.A.in1.handled=none:=by simpa using I.ok.hd hc
  have D1:=Draws.list (prog:=X.prog) (w:=X.w) (A:=X.A.in1) hd i1 a a4 a0.toArray;have D2:=Draws.list (prog:=X.prog) (w:=X.w) (A:=X.A.in1) hd i2 b b5 a6.toArray;obtain⟨h1,h2,⟨u0,v0,Z⟩,Y,h5⟩:=st;have hT:s.TypeIs (.ref c) "zip":=⟨_,h1,rfl⟩;have hcl:c<s.heap.objs.size:=A09 h1;have hTIl:TI<s.heap.objs.size:=A09 h2;have hTOl:TO<s.heap.objs.size:=A09 Z;have h1l:i1<s.heap.objs.size:=let ⟨_,q,_⟩:=Y;A09 q;have h2l:i2<s.heap.objs.size:=let ⟨_,q,_⟩:=h5;A09 q;unfold pyNext
  refine A02 (A5B (A25 (name:=Str.ofString "__next__") hT F.slot_zip_next (A24 F.slot_zip_next hT F.entry_zip_next
   (aI1 D1 D2 (by simpa using hil) (by simpa using hjl) h1 h2 Z ⟨Y,PlainL.isList p⟩ ⟨h5,PlainL.isList p'⟩ (by simp[n3,Ne.symm a1]) (by simp[n4,Ne.symm b1]) (by simp[n8,Ne.symm a3]) (by simp[n9,Ne.symm b3]) (by simp[a9,Ne.symm b4]) (by simp[Ne.symm a9,Ne.symm a5]) (Ne.symm n3) (Ne.symm n4) (Ne.symm n2) n8 n9 λg tk x' y' px py gz gTO gu g1 g2 kp=>?_) (F.args_zip_next_1 _))))
  have ex:x'=u:=by have q:a0.toArray[i]? = some x':=px;rw[A21,hu] at q;exact(A10 q).symm
  have ey:y'=v:=by have q:a6.toArray[i]? = some y':=py;rw[A21,hv] at q;exact(A10 q).symm
  subst ex ey;refine A07 ⟨_,rfl,wpAny_letOwnedTupleGo_zip gz λg' gz' hs'=>?_⟩;have hTn:H s.heap.objs.size=none:=I.hok.fresh (A0B _)
  have I1:Inv X pins σ (upd H s.heap.objs.size (.tup [x,y])) {s with heap:=s.heap.push {cls:=.type "tuple",data:=.seq #[x',y']}}:=
   I.laid (t':=s.toks) (λb ob q=>Heap.get?_push_of_some _ q) (Nat.le_refl _) ⟨by simp[sizeLine_eq],[x',y'],.cons ru (.cons rv2 .nil),_,Heap.get?_push_size _ rfl,rfl,⟨_,rfl⟩,rfl⟩
  have nT:∀ q∈[c,TI,TO,i1,i2],q≠s.heap.objs.size:=λq U=>by simp only[List.mem_cons,List.not_mem_nil,or_false] at U;rcases U with rfl|rfl|rfl|rfl|rfl<;>exact A0N (by assumption)
  have up:∀ q o,q≠c->g.get? q=some o->g'.get? q=some o:=λq o U e=>hs'.extBut q o U e;have I2:Inv X pins σ (upd H s.heap.objs.size (.tup [x,y])) {s with heap:=g',toks:=tk}:=Inv.turnedL (s:={s with heap:=s.heap.push {cls:=.type "tuple",data:=.seq #[x',y']}}) (ch:=[c,TI,TO,i1,i2]) I1 (λq ob U e=>?_) (λq U=>?_)
  . refine⟨.ref s.heap.objs.size,_,I2,rfl,⟨_,x,y,hTn,rfl,rfl,λzs hz=>by rw[I.list_inj hz a7];exact hx,λzs hz=>by rw[I.list_inj hz a8];exact hy⟩,⟨gz',up _ _ (Ne.symm n1) (kp _ _ (Ne.symm n1) n6 n7 n5 h2),⟨_,_,up _ _ (Ne.symm n2) gTO⟩,g1.1.at λo q=>up _ _ (Ne.symm n3) q,g2.1.at λo q=>up _ _ (Ne.symm n4) q⟩,λq U=>?_⟩;rw[Ay (nT q U)];exact(hf q U).1
  . simp only[List.mem_cons,List.not_mem_nil,or_false,not_or] at U;rcases A4V e with ⟨rfl,rfl⟩|e
    . exact up _ _ (A2O hcl) gu
    exact up _ _ U.1 (kp q ob U.1 U.2.2.2.1 U.2.2.2.2 U.2.2.1 e)
  obtain⟨f0,f1,f2,f3,f4,f5⟩:=hf q U;exact⟨by rw[Ay (nT q U)];exact f0,f1,f2,f3,f4,f5⟩
 done:=by
  intro X hP hw hK hc i pins s σ H E I hf st hg;subst hP hw hK;obtain⟨nd,na,nb⟩:=O;simp only[List.nodup_cons,List.mem_cons,List.not_mem_nil,or_false,not_or,List.nodup_nil,and_true,not_false_eq_true] at nd na nb;obtain⟨⟨n1,n2,n3,n4⟩,⟨n5,n6,n7⟩,⟨n8,n9⟩,a9⟩:=nd;obtain⟨a1,a2,a3,a4,a5⟩:=na;obtain⟨b1,b2,b3,b4,b5⟩:=nb;obtain⟨xs,ys,a7,a8,aA⟩:=hg;obtain⟨a0,rv,p,hz⟩:=I.list a7;obtain⟨a6,aB,p',hz'⟩:=I.list a8;have hd:X.A.in1.handled=none:=by simpa using I.ok.hd hc
  have D1:=Draws.list (prog:=X.prog) (w:=X.w) (A:=X.A.in1) hd i1 a a4 a0.toArray;have D2:=Draws.list (prog:=X.prog) (w:=X.w) (A:=X.A.in1) hd i2 b b5 a6.toArray;obtain⟨h1,h2,⟨u0,v0,Z⟩,Y,h5⟩:=st;have hT:s.TypeIs (.ref c) "zip":=⟨_,h1,rfl⟩;have hxl:=rv.length;have hyl:=aB.length;unfold pyNext;rcases aA with aA|⟨hlt,aA⟩
  . have hsz:a0.toArray.size=i:=by rw[A0E];omega
    rw[hsz] at D1;refine wpAny_bind (wpAny_attempt (wpAny_callSpecial?_slot (name:=Str.ofString "__next__") hT F.slot_zip_next (wpAny_call_entry F.slot_zip_next hT F.entry_zip_next (Ue D1 h1 h2 ⟨Y,PlainL.isList p⟩ (by simp[n3,Ne.symm a1]) (Ne.symm n3) λg e kp he=>?_) (F.args_zip_next_1 _))));refine A02 (A37 (T:="StopIteration") (b:=true) he A51 ?_);exact wpAny_pure ⟨rfl,I.turnedL (t':=s.toks) (ch:=[c,TI,TO,i1,i2]) (λq o U e=>kp q o (λz=>U (by simp[z])) (λz=>U (by simp[z])) e) hf⟩
  have hsz:a6.toArray.size=i:=by rw[A0E];omega
  have hsx:i<a0.toArray.size:=by rw[A0E];omega
  subst hsz;refine wpAny_bind (wpAny_attempt (wpAny_callSpecial?_slot (name:=Str.ofString "__next__") hT F.slot_zip_next (wpAny_call_entry F.slot_zip_next hT F.entry_zip_next (aG4 D1 D2 hsx h1 h2 Z ⟨Y,PlainL.isList p⟩ ⟨h5,PlainL.isList p'⟩ (by simp[n3,Ne.symm a1]) (by simp[n4,Ne.symm b1]) (by simp[n9,Ne.symm b3]) (by simp[a9,Ne.symm b4]) (Ne.symm n3) (Ne.symm n4) (Ne.symm n2) n8 λg tk e kp he=>?_) (F.args_zip_next_1 _))));refine A02 (A37 (T:="StopIteration") (b:=true) he A51 ?_);exact wpAny_pure ⟨rfl,I.turnedL (t':=tk) (ch:=[c,TI,TO,i1,i2]) (λq o U e=>kp q o (λz=>U (by simp[z])) (λz=>U (by simp[z])) (λz=>U (by simp[z])) (λz=>U (by simp[z])) e) hf⟩
 self:=by intro A i s Q E st hQ;exact A4H st.1 hQ
section
variable {X:Cx}{K:W.Frag}
def ah8 (K:W.Frag)(vs:List V)(H:Hp)(R:It->Hp->Prop):Prop:=∃ a b xs ys,vs=[.ref a,.ref b]/\SqL K H a xs/\SqL K H b ys/\R (aH0 K a b) H
def at7 (K:W.Frag)(ta:TA):TI:=fun σ H R=>ta σ H λvs H1=>ah8 K vs H1 R
theorem al4 {Y U:Expr}{ta:TA}{p pos:Pos}{a3:List Expr}{ek:Nat}{a4:Pos}(hg:Gl X "zip")(hm:X.mg "zip" = none)(ha:PA X [Y,U] ta)(hK:X.K=K:=by ac_nf)
 (a8:starEach [Y,U] X.env=(false,eval Y X.env) :: starEach [U] X.env:=by ac_nf) (a7:(backTo pos (starEach [U] X.env)).any (·.1)=false:=by ac_nf) :
 PI X (.Tuple a3 ek a4) (.Call (.Name "zip" p) [Y,U] [] pos) (at7 K ta):=by
 subst hK;intro pins s σ H R I h;refine Call_ (Kh I hg hm PyProof.Rows.Boot.«zip» (A1V (thn (ha pos pins s σ H _ I h) λus F ⟨vs,H1,O,r1,q1⟩=>?_) a8 a7));obtain⟨a,b,xs,ys,rfl,hA,hB,q⟩:=q1;obtain⟨u1,u2,rfl,ra,rb⟩:=Vals.two r1
 cases ra
 cases rb;obtain⟨ks,rk,a1,_⟩:=O.list hA;obtain⟨vs,rv,a2,_⟩:=O.list hB;have a5:a<F.heap.objs.size:=let ⟨_,q,_⟩:=A5E a1;A09 q;have a6:b<F.heap.objs.size:=let ⟨_,q,_⟩:=A5E a2;A09 q;refine Wo (A5E a1) (A5E a2) λg Z g3 g4 g1 g2 z5 kp=>?_;refine A4H Z ?_;refine⟨F.heap.objs.size+4,_,_,_,H1,rfl,O.kept (t':=F.toks) kp,Z3 (F.heap.objs.size+4) (F.heap.objs.size+2) (F.heap.objs.size+3) F.heap.objs.size (F.heap.objs.size+1) a b (Oj _ _ _ a5 a6),⟨Z,g3,⟨_,_,g4⟩,⟨_,g1,rfl,rfl⟩,⟨_,g2,rfl,rfl⟩⟩,λc hc=>?_,q⟩
 have a0:F.heap.objs.size<=c:=by
  simp only[List.mem_cons,List.not_mem_nil,or_false] at hc;rcases hc with rfl|rfl|rfl|rfl|rfl
  . exact A38 _ _
  . exact A38 _ _
  . exact A38 _ _
  . exact A0B _
  exact A39 _
 exact O.fpOk a0 (O.hok.fresh a0)
end
section
variable {K:W.Frag}{σ:St}{H:Hp}{Q:VK}
def ae0 {ts:TA}{R:It->Hp->Prop}(k:ts σ H λvs H1=>ah8 K vs H1 R):at7 K ts σ H R:=k
theorem Z0 {xs ys:List V}{f:Nat->Bool}{b:Addr}{te:TE}{js:List Nat}(hA:SqL K H a xs)(hB:SqL K H b ys)(hz:xs.length<=1000000)
 (hs:∀(i:Nat) x y H1 (R:VK),xs[i]? = some x->ys[i]? = some y->Same H H1->(∀ H2,Same H1 H2->R (.bl (f i)) H2)->te (((List.replicate 2 none++Mm σ js).set 0 (some x)).set 1 (some y)) H1 R)
 (hd:∀ p H',H p=none->Same H H'->H' p=some (.lst (((List.range (min xs.length ys.length)).map f).map V.bl))->Q (.ref p) H') :
 ah8 K [.ref a,.ref b] H λJ H1=>Kw 2 js (ab4 K 2 (M8 (Ht 0) (M8 (Ht 1) ae6))) W1 te σ J H1 Q:=by
 refine⟨a,b,xs,ys,rfl,hA,hB,λp U=>⟨λi m H'=>m=min xs.length ys.length-i/\i<=min xs.length ys.length/\Same H H'/\H' p=some (.lst (((List.range i).map f).map V.bl)),⟨min xs.length ys.length,by simp,Nat.zero_le _,Same.upd U,Aj⟩,?_⟩⟩;rintro i m H' ⟨rfl,hi,e,a0⟩;have ga:=e.seq hA;have F:=e.seq hB
 by_cases a3:i<min xs.length ys.length
 . have hx:xs[i]? = some xs[i]:=A00 (by omega);have hy:ys[i]? = some ys[i]:=A00 (by omega);refine .inr ⟨⟨_,_,_,_,ga,F,hx,hy⟩,λH2=>i+1<=min xs.length ys.length/\Same H H2/\H2 p=some (.lst (((List.range (i+1)).map f).map V.bl)),λH2 O=>⟨min xs.length ys.length-(i+1),by omega,rfl,O.1,O.2.1,O.2.2⟩,λv H2 y=>?_⟩;obtain⟨t,x,y,Y,rfl,rfl,a4,a6⟩:=y;have a5:=a4 _ ga;have a7:=a6 _ F;refine⟨t,_,rfl,SqT.of Aj,rfl,x,[y],rfl,y,[],rfl,rfl,?_⟩;refine hs i x y _ _ a5 a7 (e.trans (Same.upd Y)) λH3 Z=>?_;have a1:H3 p=some (.lst (((List.range i).map f).map V.bl)):=Z _ _ (Same.upd Y _ _ a0);refine⟨_,a1,by rw[A01,A01,A1S,A0T];omega,a3,((e.trans (Same.upd Y)).trans Z).off U ExtBut.upd,?_⟩;rw[Aj,List.range_succ,A0R,A0R];rfl
 have a2:i=min xs.length ys.length:=by omega
 subst a2;exact .inl ⟨⟨_,_,ga,F,by omega⟩,hd p H' U e a0⟩
end
end L2
namespace K46
open PySem L2 PySem.Spec PyProof.Rows
variable {l a d p b q f r D_RULES RULES_t0 RULES_t1 RULES_t2 RULES_t3 RULES_t4 RULES_t5 RULES_t6 RULES_t7 C_HalfError C_NoPaper C_NoName C B:Addr}{fd:FuncData}{H H' H2:Hp}{G:Hp->Prop}{t u x:Int}{J:It}{kvs:List (Key×V)}{hs:List (List Str×List (Str×Str))}{qs:List (Str×Str)}{as S:List Addr}{ms ks:List Str}{xs:List V}{D:PyData}{z:Str}{te:TE}{g:TG}{tt:TT}{v y:V}{Q:VK}
def top (i:Nat):Stmt:=PySem.Challenge.pw_halforder_k46_rows_by_last_and_first_one.main.body.getD i (.Pass ⟨0,0,0,0⟩)
abbrev G9:Stmt:=top 8
def Cc:Am ["half","names","reach","saying","middle","name"] ["half"] (A8 G9):=⟨rfl,rfl,rfl,by decide +kernel,rfl,by decide +kernel,by decide +kernel⟩
abbrev Sy:Stmt:=top 10
def a80:Am ["one","other"] ["one","other"] (A8 Sy):=⟨rfl,rfl,rfl,by decide +kernel,rfl,by decide +kernel,by decide +kernel⟩
abbrev Lo:Stmt:=top 12
def Tu:Am ["thing"] ["thing"] (A8 Lo):=⟨rfl,rfl,rfl,by decide +kernel,rfl,by decide +kernel,by decide +kernel⟩
abbrev Gk:Stmt:=top 13
def O1:Am ["thing","size"] ["thing","size"] (A8 Gk):=⟨rfl,rfl,rfl,by decide +kernel,rfl,by decide +kernel,by decide +kernel⟩
abbrev N2:Stmt:=top 17
def Wr:Am ["thing"] ["thing"] (A8 N2):=⟨rfl,rfl,rfl,by decide +kernel,rfl,by decide +kernel,by decide +kernel⟩
abbrev Df:Stmt:=top 18
def J6:Am ["thing"] ["thing"] (A8 Df):=⟨rfl,rfl,rfl,by decide +kernel,rfl,by decide +kernel,by decide +kernel⟩
abbrev Ef:Stmt:=top 22
def Kr:Am ["thing"] ["thing"] (A8 Ef):=⟨rfl,rfl,rfl,by decide +kernel,rfl,by decide +kernel,by decide +kernel⟩
abbrev Jr:Stmt:=top 23
def Sk:Am ["thing","names"] ["thing","names"] (A8 Jr):=⟨rfl,rfl,rfl,by decide +kernel,rfl,by decide +kernel,by decide +kernel⟩
abbrev Ez:Stmt:=top 24
def M6:Am ["thing"] ["thing"] (A8 Ez):=⟨rfl,rfl,rfl,by decide +kernel,rfl,by decide +kernel,by decide +kernel⟩
abbrev Cq:Stmt:=top 25
def Cf:Am ["tale","number","thing"] ["tale"] (A8 Cq):=⟨rfl,rfl,rfl,by decide +kernel,rfl,by decide +kernel,by decide +kernel⟩
abbrev N4:Stmt:=top 26
def W7:Am ["thing"] ["thing"] (A8 N4):=⟨rfl,rfl,rfl,by decide +kernel,rfl,by decide +kernel,by decide +kernel⟩
abbrev Kx:Stmt:=top 28
def Mr:Am ["thing","reach"] ["thing"] (A8 Kx):=⟨rfl,rfl,rfl,by decide +kernel,rfl,by decide +kernel,by decide +kernel⟩
abbrev Ju:Stmt:=top 30
def Qr:Am ["reach"] ["reach"] (A8 Ju):=⟨rfl,rfl,rfl,by decide +kernel,rfl,by decide +kernel,by decide +kernel⟩
abbrev F2:Stmt:=top 32
def Gz:Am ["reach","name","left"] ["reach","name"] (A8 F2):=⟨rfl,rfl,rfl,by decide +kernel,rfl,by decide +kernel,by decide +kernel⟩
abbrev Nw:Stmt:=top 35
abbrev O3:Stmt:=top 36
abbrev K2:Stmt:=top 40
def Rw:Am ["kind","thing","reach"] ["kind","thing","reach"] (A8 K2):=⟨rfl,rfl,rfl,by decide +kernel,rfl,by decide +kernel,by decide +kernel⟩
abbrev Nq:Stmt:=top 41
def O8:Am ["thing","reach","kinds"] ["thing","reach"] (A8 Nq):=⟨rfl,rfl,rfl,by decide +kernel,rfl,by decide +kernel,by decide +kernel⟩
abbrev Ms:Stmt:=top 42
def Iu:Am ["rule","refs","kind","part"] ["rule"] (A8 Ms):=⟨rfl,rfl,rfl,by decide +kernel,rfl,by decide +kernel,by decide +kernel⟩
abbrev Ng:Stmt:=top 43
def W9:Am ["word","reach"] ["word","reach"] (A8 Ng):=⟨rfl,rfl,rfl,by decide +kernel,rfl,by decide +kernel,by decide +kernel⟩
abbrev Wg:Stmt:=top 44
abbrev J7:Stmt:=top 45
def Lw:Am ["reach","rule","spoken","ends"] ["reach","rule","spoken"] (A8 J7):=⟨rfl,rfl,rfl,by decide +kernel,rfl,by decide +kernel,by decide +kernel⟩
abbrev Q3:Stmt:=top 46
abbrev K0:Stmt:=top 47
def Rp:Am ["reach","rule","spoken"] ["reach","rule","spoken"] (A8 K0):=⟨rfl,rfl,rfl,by decide +kernel,rfl,by decide +kernel,by decide +kernel⟩
abbrev Zy:Stmt:=top 48
abbrev Hz:Stmt:=top 49
def Pw:Am ["reach","rule","spoken","numbers"] ["reach","rule","spoken","numbers"] (A8 Hz):=⟨rfl,rfl,rfl,by decide +kernel,rfl,by decide +kernel,by decide +kernel⟩
abbrev Ff:Stmt:=top 50
def Mt:Am ["thing"] ["thing"] (A8 Ff):=⟨rfl,rfl,rfl,by decide +kernel,rfl,by decide +kernel,by decide +kernel⟩
abbrev L5:Stmt:=top 51
def Jo:Am ["rows","row","reach","reaches","refs","spoken"] ["rows","row","reach","reaches"] (A8 L5):=⟨rfl,rfl,rfl,by decide +kernel,rfl,by decide +kernel,by decide +kernel⟩
abbrev Ih:Stmt:=top 52
def Cn:Am ["rows","reaches","place","row","reach","word"] ["rows"] (A8 Ih):=⟨rfl,rfl,rfl,by decide +kernel,rfl,by decide +kernel,by decide +kernel⟩
abbrev I0:Stmt:=top 53
def Ki:Am ["half","paper","fault"] ["half","paper"] (A8 I0):=⟨rfl,rfl,rfl,by decide +kernel,rfl,by decide +kernel,by decide +kernel⟩
abbrev Jh:Stmt:=top 55
def Sf:Am ["_law_script"] ["_law_script"] (A8 Jh):=⟨rfl,rfl,rfl,by decide +kernel,rfl,by decide +kernel,by decide +kernel⟩
abbrev Jg:Stmt:=top 56
def D4:Am ["_law_feed_here","_law_many","_law_found","_law_cell","_law_mixed"] ["_law_feed_here","_law_many"] (A8 Jg):=⟨rfl,rfl,rfl,by decide +kernel,rfl,by decide +kernel,by decide +kernel⟩
abbrev Ex:Stmt:=top 57
def Cv:Am ["_law_feed_here","_law_some","_law_left","_law_found","_law_k"] ["_law_feed_here","_law_some"] (A8 Ex):=⟨rfl,rfl,rfl,by decide +kernel,rfl,by decide +kernel,by decide +kernel⟩
abbrev Hk:Stmt:=top 58
def B6:Am ["_law_feed_here","_law_letters","_law_way","_law_start","_law_size","_law_at","_law_some","_law_head","_law_tail"] ["_law_feed_here"] (A8 Hk):=⟨rfl,rfl,rfl,by decide +kernel,rfl,by decide +kernel,by decide +kernel⟩
abbrev Jt:Stmt:=top 59
def C2:Am ["_law_feed_here","_law_many","_law_names_here","_law_line","_law_rare","_law_sayings","_law_k","_law_j"] ["_law_feed_here","_law_many"] (A8 Jt):=⟨rfl,rfl,rfl,by decide +kernel,rfl,by decide +kernel,by decide +kernel⟩
abbrev Jb:Stmt:=top 60
def C1:Am ["_law_half_here","_law_found","_law_more","_law_one","_law_other","_law_fresh"] ["_law_half_here"] (A8 Jb):=⟨rfl,rfl,rfl,by decide +kernel,rfl,by decide +kernel,by decide +kernel⟩
abbrev Lr:Stmt:=top 61
def G6:Am ["_law_half_here","_law_over_here","_law_pairs","_law_name"] ["_law_half_here"] (A8 Lr):=⟨rfl,rfl,rfl,by decide +kernel,rfl,by decide +kernel,by decide +kernel⟩
abbrev Jc:Stmt:=top 62
def Fc:Am ["_law_half_here","_law_left","_law_over_here","_law_pairs","_law_name"] ["_law_half_here","_law_left"] (A8 Jc):=⟨rfl,rfl,rfl,by decide +kernel,rfl,by decide +kernel,by decide +kernel⟩
abbrev Pj:Stmt:=top 63
abbrev F5:Stmt:=top 64
def Ma:Am ["_law_thing"] ["_law_thing"] (A8 F5):=⟨rfl,rfl,rfl,by decide +kernel,rfl,by decide +kernel,by decide +kernel⟩
abbrev Dm:Stmt:=top 65
def Ko:Am ["_law_thing"] ["_law_thing"] (A8 Dm):=⟨rfl,rfl,rfl,by decide +kernel,rfl,by decide +kernel,by decide +kernel⟩
abbrev Ea:Stmt:=top 66
def G5:Am ["_law_thing","_law_letters"] ["_law_thing"] (A8 Ea):=⟨rfl,rfl,rfl,by decide +kernel,rfl,by decide +kernel,by decide +kernel⟩
abbrev Fg:Stmt:=top 67
def Ev:Am ["_law_thing","_law_one","_law_over_here"] ["_law_thing"] (A8 Fg):=⟨rfl,rfl,rfl,by decide +kernel,rfl,by decide +kernel,by decide +kernel⟩
abbrev Fl:Stmt:=top 68
def Dc:Am ["_law_names_here","_law_rule","_law_word_here","_law_some","_law_sizes"] ["_law_names_here","_law_rule"] (A8 Fl):=⟨rfl,rfl,rfl,by decide +kernel,rfl,by decide +kernel,by decide +kernel⟩
abbrev Jk:Stmt:=top 69
def Qh:Am ["_law_rule"] ["_law_rule"] (A8 Jk):=⟨rfl,rfl,rfl,by decide +kernel,rfl,by decide +kernel,by decide +kernel⟩
abbrev K7:Stmt:=top 70
def Lv:Am ["_law_half_here","_law_word_here","_law_taken"] ["_law_half_here","_law_word_here"] (A8 K7):=⟨rfl,rfl,rfl,by decide +kernel,rfl,by decide +kernel,by decide +kernel⟩
abbrev T4:Stmt:=top 71
abbrev Eh:Stmt:=top 72
def Az:Am ["_law_half_here","_law_rule","_law_halves","_law_names_here","_law_pairs","_law_ends_here","_law_due","_law_one","_law_other","_law_made_here"] ["_law_half_here","_law_rule","_law_halves"] (A8 Eh):=⟨rfl,rfl,rfl,by decide +kernel,rfl,by decide +kernel,by decide +kernel⟩
abbrev Ee:Stmt:=top 73
def Dr:Am ["_law_half_here","_law_rule","_law_rows","_law_told_here","_law_ways"] ["_law_half_here","_law_rule","_law_rows"] (A8 Ee):=⟨rfl,rfl,rfl,by decide +kernel,rfl,by decide +kernel,by decide +kernel⟩
abbrev Je:Stmt:=top 74
def F9:Am ["_law_paper","_law_at","_law_row_here","_law_refs_here","_law_rows"] ["_law_paper","_law_at"] (A8 Je):=⟨rfl,rfl,rfl,by decide +kernel,rfl,by decide +kernel,by decide +kernel⟩
abbrev Hu:Stmt:=top 75
def Go:Am ["_law_paper","_law_k","_law_word_here"] ["_law_paper"] (A8 Hu):=⟨rfl,rfl,rfl,by decide +kernel,rfl,by decide +kernel,by decide +kernel⟩
abbrev Jj:Stmt:=top 76
def Ci:Am ["_law_half_here","_law_paper","_law_found","e","_law_others"] ["_law_half_here","_law_paper"] (A8 Jj):=⟨rfl,rfl,rfl,by decide +kernel,rfl,by decide +kernel,by decide +kernel⟩
abbrev Ek:Stmt:=top 77
def Bn:Am ["_law_half_here","_law_paper","_law_ahead","_law_fault_here","_law_due","_law_last"] ["_law_half_here","_law_paper"] (A8 Ek):=⟨rfl,rfl,rfl,by decide +kernel,rfl,by decide +kernel,by decide +kernel⟩
abbrev Il:Stmt:=top 78
def Dv:Am ["_law_rows","_law_half_here","_law_key_here","_law_some","_law_rule","_law_left"] ["_law_rows","_law_half_here"] (A8 Il):=⟨rfl,rfl,rfl,by decide +kernel,rfl,by decide +kernel,by decide +kernel⟩
abbrev Ln:Stmt:=top 79
def Gm:Am ["_law_feed_here","_law_rows","_law_half_here","_law_key_here","_law_some","_law_way"] ["_law_feed_here","_law_rows","_law_half_here"] (A8 Ln):=⟨rfl,rfl,rfl,by decide +kernel,rfl,by decide +kernel,by decide +kernel⟩
abbrev Eg:Stmt:=top 80
def Ba:Am ["_law_feed_here","_law_rows","_law_half_here","_law_rule","_law_refs_here","_law_number","_law_names_here"] ["_law_feed_here","_law_rows","_law_half_here","_law_rule"] (A8 Eg):=⟨rfl,rfl,rfl,by decide +kernel,rfl,by decide +kernel,by decide +kernel⟩
abbrev Hl:Stmt:=top 81
def Bb:Am ["_law_feed_here","_law_rows","_law_half_here","_law_word_here","_law_refs_here","_law_name","_law_left","_law_way","_law_at"] ["_law_feed_here","_law_rows","_law_half_here"] (A8 Hl):=⟨rfl,rfl,rfl,by decide +kernel,rfl,by decide +kernel,by decide +kernel⟩
abbrev P7:Stmt:=top 82
def Nt:Am ["_law_script","_law_feed_here","_law_turn","_law_half_here","_law_rows","_law_k","_law_paper"] ["_law_script"] (A8 P7):=⟨rfl,rfl,rfl,by decide +kernel,rfl,by decide +kernel,by decide +kernel⟩
abbrev Ca:Stmt:=af7 (top 4) 0
def N3:Am ["self","word","row"] ["self","word","row"] (A8 Ca):=⟨rfl,rfl,rfl,by decide +kernel,rfl,by decide +kernel,by decide +kernel⟩
structure Dy (mg:Str->Option Value):Prop where
 g_MOST_NAMES:∃ u,mg "MOST_NAMES" = some u/\RelV (.int 10) u
 g_MOST_ROWS:∃ u,mg "MOST_ROWS" = some u/\RelV (.int 1200) u
 g_MOST_SAYINGS:∃ u,mg "MOST_SAYINGS" = some u/\RelV (.int 60) u
 g_MOST_SIGNS:∃ u,mg "MOST_SIGNS" = some u/\RelV (.int 8) u
 g_SMALL_LETTERS:∃ u,mg "SMALL_LETTERS" = some u/\RelV (.str "abcdefghijklmnopqrstuvwxyz") u
 b_ValueError:mg "ValueError" = none
 b_all:mg "all" = none
 b_any:mg "any" = none
 b_bool:mg "bool" = none
 b_dict:mg "dict" = none
 b_enumerate:mg "enumerate" = none
 b_int:mg "int" = none
 b_isinstance:mg "isinstance" = none
 b_len:mg "len" = none
 b_list:mg "list" = none
 b_max:mg "max" = none
 b_range:mg "range" = none
 b_repr:mg "repr" = none
 b_set:mg "set" = none
 b_sorted:mg "sorted" = none
 b_str:mg "str" = none
 b_sum:mg "sum" = none
 b_tuple:mg "tuple" = none
 b_zip:mg "zip" = none
structure Nc (P:Program)(w:World)(K:W.Frag)(mg:Str->Option Value)(a RULES_t0 RULES_t1 RULES_t2 RULES_t3 RULES_t4 RULES_t5 RULES_t6 RULES_t7:Addr):Prop where
 gl:mg "RULES" = some (.ref a)
 kd:KD P w K a [(Sum.inr "row",V.ref RULES_t0),(Sum.inr "ask",V.ref RULES_t1),(Sum.inr "last",V.ref RULES_t2),(Sum.inr "first",V.ref RULES_t3),(Sum.inr "above",V.ref RULES_t4),(Sum.inr "beside",V.ref RULES_t5),(Sum.inr "turned",V.ref RULES_t6),(Sum.inr "called",V.ref RULES_t7)]
 q_row:∀ H,SqT K H RULES_t0 []
 q_ask:∀ H,SqT K H RULES_t1 [.str "name",.str "name",.str "number",.str "number"]
 q_last:∀ H,SqT K H RULES_t2 [.str "numbers"]
 q_first:∀ H,SqT K H RULES_t3 [.str "numbers"]
 q_above:∀ H,SqT K H RULES_t4 [.str "number",.str "number"]
 q_beside:∀ H,SqT K H RULES_t5 [.str "number",.str "number"]
 q_turned:∀ H,SqT K H RULES_t6 [.str "number"]
 q_called:∀ H,SqT K H RULES_t7 [.str "names",.str "number"]
structure Et (K:W.Frag)(mg:Str->Option Value)(C B:Addr):Prop where
 xc:XC K C
 gl:mg "HalfError" = some (.ref C)
 mk0:Mkx0 K mg C "HalfError"
structure Gb (K:W.Frag)(mg:Str->Option Value)(C B:Addr):Prop where
 xc:XC K C
 gl:mg "NoPaper" = some (.ref C)
 mr:Nz K C B=true
 n_word:Hb K C "word"
 n_row:Hb K C "row"
section
variable {P:Program}{w:World}{K:W.Frag}{mg:Str->Option Value}{base:Heap}
local macro_rules | `(tactic| walk_at "lk") => L2.mRows "as | Same.lk e h: e=as h=lk | ExtBut.lk e h n: e=as n=ne h=lk | no"
local macro_rules | `(tactic| walk_at "ne") => L2.mRows "as | Ne.symm q: q=as | ne_of_none h g: g=as h=lk | ne_none2 h g: g=as h=lk | ne_of h g z: h=as g=as z=nc | no"
local macro_rules | `(tactic| walk_at "nc") => `(tactic| (intro z; cases z))
local macro_rules | `(tactic| walk_at "fr") => L2.mRows "ExtBut.refl | ExtBut.trans a b: b=as a=fr | ExtBut.same a b: b=as a=fr | ExtBut.off a q b: b=as q=as a=fr | no"
local macro_rules | `(tactic| walk_at "sm") => L2.mRows "same_refl | Same.trans a b: b=as a=sm | Same.off a q b: b=as q=as a=sm | no"
local macro_rules | `(tactic| walk_at "fd") => L2.mRows "as | Feed.same h e: e=as h=fd | Feed.off h e q f: e=as q=as f=as h=fd | no"
local macro_rules | `(tactic| walk_at "fz1") => L2.mRows "Same.fz b: b=as | ExtBut.fzL b l: b=as l=lk | ExtBut.fzD b l: b=as l=lk | Feed.fz f b: b=as f=fd | no"
local macro_rules | `(tactic| walk_at "fz") => L2.mRows "fz_refl | Fz.trans a x: x=fz1 a=fz | no"
local macro_rules | `(tactic| walk_at "sd") => `(tactic| first | omega | (show (0 : Int) < _; omega) | (unfold aF3; omega) | (unfold CMul; omega) | (unfold aF4; omega) | (unfold aF4; decide) | (refine ⟨?_, ?_⟩ <;> omega) | decide)
local macro_rules | `(tactic| walk_at "sz") => `(tactic| first | decide | exact Ak (by omega) | (rw [sizeLine_eq]; omega))
local macro_rules | `(tactic| walk_at "kv") => `(tactic| rfl)
local macro_rules | `(tactic| walk_at "rq1") => do
 let a <- L2.mAlts "i_asg i_gname i_ret i_drop i_if i_op i_un i_call i_cb i_cons i_nil i_c i_put i_tTest i_tB i_not i_and i_or i_tup i_lst i_next i_sl i_noPart i_part i_int i_for i_rng1 i_rng2 i_comp i_itS i_iany i_ienum i_ienumL i_irev i_chain i_andV i_orV i_notV i_dget1 i_tAt i_sSt i_tMe i_tMk i_tTru i_dget2 i_iDT i_bmT i_rU i_rI0 i_addI i_bl i_bm i_bm0 i_reprKB i_isN i_isNotN i_isB i_isNotB i_true i_tyS i_find i_intB i_inS i_pair i_pair0 iteR iteNR iteNbb itebb iteT iteF iteNT iteNF"
 let b <- L2.mRows "i_var w _: w=kv | i_rI w _: w=sd | i_mulBI w _: w=sd | i_tyLm w _: w=lk | i_ixD w v _: w=lk v=kv | i_eqS w _: w=kv | i_neS w _: w=kv | i_slS w _: w=sz | i_addS w _: w=sz | i_lenS w _: w=sz | i_lenL w _: w=lk | i_lenT w _: w=lk | i_cutN w _: w=ar"
 let c <- L2.mAltG "i_seqAG i_seqDG i_seqPG"
 `(tactic| first | $c:tactic | $a:tactic | $b:tactic)
local macro_rules | `(tactic| walk_at "rd1") => `(tactic| first | with_reducible refine ar4 fun N hN => ?_ | walk_at "rq1")
local macro_rules | `(tactic| walk_at "rq") => `(tactic| repeat (walk_at "rq1"))
local macro_rules | `(tactic| walk_at "rd") => `(tactic| repeat (walk_at "rd1"))
def Dq (l:Addr)(a t u:Int):List (Key×V):=[(Sum.inr "script",.ref l),(Sum.inr "at",.int a),(Sum.inr "left",.int t),(Sum.inr "turn",.int u)]
def Feed (H:Hp)(d l:Addr):Prop:=∃(a t u:Int) (ns:List Int),H d=some (.dK (Dq l a t u))/\H l=some (.lst (ns.map V.int))/\0<=ns.length/\ns.length<=64
def Hm (K:W.Frag):Sp:=λvs H Q _=>∃(a:Addr) (ns:List Int),vs=[.ref a]/\SqL K H a (ns.map V.int)/\ns.length<=63/\∀ d l H',H d=none->H l=none->Same H H'->Feed H' d l->Q (.ref d) H'
def Bv (K:W.Frag):Sp:=λvs H Q _=>∃ d l n,vs=[.ref d,.int n]/\Feed H d l/\0<n/\n<1073741824/\∀ r H',0<=r->r<n->ExtBut d H H'->Feed H' d l->Q (.int r) H'
def Y9 {a:Int}:Gq (Dq l a t u) (Sum.inr "script":Key)=some (.ref l):=by rfl
def aD3 {a:Int}:Gq (Dq l a t u) (Sum.inr "at":Key)=some (.int a):=by rfl
def ah7 {a:Int}:Gq (Dq l a t u) (Sum.inr "left":Key)=some (.int t):=by rfl
def ag9 {a:Int}:Gq (Dq l a t u) (Sum.inr "turn":Key)=some (.int u):=by rfl
local macro_rules | `(tactic| walk_at "kv") => `(tactic| first | exact Y9 | exact aD3 | exact ah7 | exact ag9 | rfl)
def a55 {a:Int}:Io (Dq l a t u) (Sum.inr "turn":Key) (.int x)=Dq l a t x:=by rfl
def ax3 {a:Int}:Io (Dq l a t u) (Sum.inr "at":Key) (.int x)=Dq l x t u:=by rfl
def V9 {a:Int}:Io (Dq l a t u) (Sum.inr "left":Key) (.int x)=Dq l a x u:=by rfl
def Feed.same (h:Feed H d l)(e:Same H H'):Feed H' d l:=let ⟨a,t,u,ns,h1,h2,h3,h4⟩:=h;⟨a,t,u,ns,e _ _ h1,e _ _ h2,h3,h4⟩
def Feed.put (h:Feed H d l)(e:ExtBut p H H')(hd:d≠p)(hl:l≠p):Feed H' d l:=let ⟨a,t,u,ns,h1,h2,h3,h4⟩:=h;⟨a,t,u,ns,e _ _ hd h1,e _ _ hl h2,h3,h4⟩
def Feed.nd (h:Feed H d l)(F:H p=none):d≠p:=let ⟨_,_,_,_,h1,_⟩:=h;ne_of_none h1 F
def Feed.nl (h:Feed H d l)(F:H p=none):l≠p:=let ⟨_,_,_,_,_,h2,_⟩:=h;ne_of_none h2 F
theorem Feed.lst    (h:Feed H d l) (F:H b=some (.lst xs)):b≠d:=let ⟨_,_,_,_,h1,_⟩:=h;ne_of F h1 (by intro z;cases z)
def Feed.free (h:Feed H' d l)(e:ExtBut d H H')(F:H' p=none):H p=none:=by
 cases hq:H p with
 |none=>rfl
 |some o=>
   obtain⟨_,_,_,_,h1,_⟩:=h;have n:p≠d:=λq=>by subst q;rw[F] at h1;cases h1
   rw[e p o n hq] at F
   cases F
def Feed.fz (h:Feed H d l)(e:ExtBut d H H'):Fz H H':=let ⟨_,_,_,_,h1,_⟩:=h;e.fzD h1
def Feed.off {H1:Hp}(h:Feed H1 d l)(e:ExtBut q H1 H2)(O:H q=none)(F:Feed H d l):Feed H2 d l:=h.put e (F.nd O) (F.nl O)
theorem Sc (F:Fu K "_law_draw" Jg f fd)(T:Dy mg):FnOk P w K mg base CX0 1 f fd ["_law_feed_here","_law_many"] (Bv K):=by
 refine F.ok D4 (λvs H Q E h=>?_) (λcdv A outer s H vs Q E hr h=>?_)
 . obtain⟨d,l,n,rfl,_⟩:=h;rfl
 obtain⟨d,l,n,rfl,⟨a,t,u,ns,hd,hl,h0,a4⟩,hn,hn2,k⟩:=h;have hu:=Bh hr;have hq:=Bg hr;have a3:l≠d:=ne_of hl hd (by intro z;cases z)
 with_reducible refine⟨_,(A2 (Lh hu (pv 0) Af (B1 (B7 (K:=K)) (A9 (A4 (K:=K) hu) (pv 0) Af (by ac_rfl)) A3) ⋯)
  (A2 (Av (A7 Vs (A9 (A4 (K:=K) hu) (pv 0) Af (by ac_rfl)) A3 (Ac _)) (A2 (Ai (i:=2) D4.nd ⋯ (by eq_refl) (B1 Lz (A9 (A4 (K:=K) hu) (pv 0) Af (by ac_rfl)) (pv 1)))
  (A2 (Lh hu (pv 0) Af (B1 Mb (A9 (A4 (K:=K) hu) (pv 0) Af (by ac_rfl)) (pv 1)) ⋯)
  (A5 (Aa (pv 2))))) Ad)
  (A2 (Ai (i:=3) D4.nd ⋯ (by eq_refl) A3)
  (A2 (Av (A7 (C8 (K:=K) hq) (A9 (A4 (K:=K) hu) (pv 0) Af (by ac_rfl)) (Bm A1) (Ac _)) (A5 (Ai (i:=3) D4.nd ⋯ (by eq_refl) (A9 (A4 (K:=K) hu) (A9 (A4 (K:=K) hu) (pv 0) Af (by ac_rfl)) (B1 Lz (A9 (A4 (K:=K) hu) (pv 0) Af (by ac_rfl)) (A6 (Ab (K:=K)) ⋯ T.b_len PyProof.Rows.Boot.«len» (A0 (A9 (A4 (K:=K) hu) (pv 0) Af (by ac_rfl)) A1))) (by ac_rfl)))) Ad)
  (A2 (Lh hu (pv 0) Af (B1 (B7 (K:=K)) (A9 (A4 (K:=K) hu) (pv 0) Af (by ac_rfl)) A3) ⋯)
  (A2 (Av (PW.pt (R7 (A7 an1 (pv 3) (B1 ax2 A3 A3) (Ac _)) (Q6 (A7 Tj (A9 (A4 (K:=K) hu) (pv 0) Af (by ac_rfl)) (A6 (Ab (K:=K)) ⋯ T.b_len PyProof.Rows.Boot.«len» (A0 (A9 (A4 (K:=K) hu) (pv 0) Af (by ac_rfl)) A1)) (Ac _))))) (A2 (Lh hu (pv 0) Af (B1 Mb (pv 3) (pv 1)) ⋯)
  (A5 (Aa (B1 Lz (pv 3) (pv 1))))) Ad)
  (A2 (Ai (i:=4) D4.nd ⋯ (by eq_refl) (B1 Lz (B1 Cw (B1 (B7 (K:=K)) (B1 Lz (pv 3) A3) (B1 Cw A3 (A9 (A4 (K:=K) hu) (pv 0) Af (by ac_rfl)))) A3) A3))
  (A2 (Ai (i:=4) D4.nd ⋯ (by eq_refl) (B1 Lz (B1 Cw (B1 (B7 (K:=K)) (B1 Mb (pv 4) A3) (B1 Cw A3 (A9 (A4 (K:=K) hu) (pv 0) Af (by ac_rfl)))) A3) A3))
  (A5 (Aa (B1 Lz (B1 Mb (pv 4) A3) (pv 1)))))))))))),?_⟩
 symm;refine Mx hd (by show 4<1000;decide) λH1 e1 a1=>?_;rw[a55] at a1;have a2:H1 l=some (.lst (ns.map V.int)):=e1 _ _ a3 hl;symm;refine Gw (λht=>?_) (λht=>?_)
 . symm;refine Mx a1 (by show 4<1000;decide) λH2 O Z=>?_;rw[V9] at Z;have a0:H2 l=some (.lst (ns.map V.int)):=O _ _ a3 a2;symm;exact k _ H2 (A3J _ (by omega)) (A2Y _ hn) (e1.trans O) ⟨_,_,_,ns,Z,a0,h0,a4⟩
 walk_at "rq"
 with_reducible refine N1 (fun σ' H'=>∃ c:Int,σ'=[some (.ref d),some (.int n),none,some (.int c),none]/\Same H1 H') (λN hN=>?_) (fun σ1 H2 hM=>?_)
 . walk_at "rq";refine Br ∅ λy H2 hy2 O h2=>?_;refine Vy (U1 (O.seq (SqL.of a2))) (U1 (ns:=[]) (SqL.of h2)) (W.ke_shaped_ints ns) (W.ke_shaped_ints []) ?_;walk_at "rq";refine Wu (λY=>?_) (λY=>?_)
   . have hpos:0<ns.length:=by
      cases ns with
      |nil=>simp[PyData.eqv,PyData.eqvAll] at Y
      |cons=>simp
     have a0:=O _ _ a2;have Z:=O _ _ a1;walk_at "rq";have aA:(0:Int)<((ns.map V.int).length:Nat):=by rw[A01];omega
     refine i_rI aA ?_;have hm0:0<=a % (((ns.map V.int).length:Nat):Int):=A3J _ (by omega);have hm1:=A2Y a aA
     obtain⟨c,Y⟩:∃ c,(ns.map V.int)[(a % (((ns.map V.int).length:Nat):Int)).toNat]? = some (V.int c):=by refine⟨ns[(a % (((ns.map V.int).length:Nat):Int)).toNat]'(by rw[A01] at *;omega),?_⟩;rw[A06,A00];rfl
     refine Fv a0 (by have:=Ag Y;rwa[A2R hm0] at this) ?_
     walk_at "rq";exact hN _ _ ⟨c,rfl,O⟩
   walk_at "rq";exact hN _ _ ⟨0,rfl,O⟩
 obtain⟨c,rfl,O⟩:=hM;have Z:=O _ _ a1;have a0:=O _ _ a2;have a6:ExtBut d H H2:=e1.same O;symm;refine Mx Z (by show 4<1000;decide) λH3 e3 a5=>?_;rw[ax3] at a5;have a9:H3 l=some (.lst (ns.map V.int)):=e3 _ _ a3 a0;have a7:∀ r:Int,0<=r->r<n->Q (.int r) H3:=λr h1 h2=>k r H3 h1 h2 (a6.trans e3) ⟨_,_,_,ns,a5,a9,h0,a4⟩;have take:∀ r x:Int,0<=r->r<n->∀ U,ExtBut d H3 U->U d=some (.dK (Dq l (a+1) x (u+1)))->Q (.int r) U:=λr x h1 h2 U e4 h4=>k r U h1 h2 ((a6.trans e3).trans e4) ⟨_,_,_,ns,h4,e4 _ _ a3 a9,h0,a4⟩;symm;refine Gw (λY=>?_) (λY=>?_)
 . symm;refine Gw (λhc2=>?_) (λhc2=>?_)
   . symm;refine Mx a5 (by show 4<1000;decide) λU e4 a8=>?_;rw[V9] at a8;symm;exact take _ _ (A3J _ (by omega)) (A2Y _ hn) U e4 a8
   symm;exact a7 _ (A3J _ (by omega)) (A2Y _ hn)
 symm;exact a7 _ (A3J _ (by omega)) (A2Y _ hn)
theorem Ro (F:Fu K "_law_feed" Jh f fd)(T:Dy mg):FnOk P w K mg base CX0 1 f fd ["_law_script"] (Hm K):=by
 refine F.ok Sf (λvs H Q E h=>?_) (λcdv A outer s H vs Q E hr h=>?_)
 . obtain⟨a,ns,rfl,_⟩:=h;rfl
 obtain⟨a,ns,rfl,hS,h63,k⟩:=h;have hu:=Bh hr;have hq:=Bg hr
 with_reducible refine⟨_,(A5 (Aa (T3 (E1 Af (Bd (Oe (K:=K)) ⋯ T.b_list PyProof.Rows.Boot.«list» (A0 (Bl (Q7 (K:=K)) (pv 0) Dd (Bk A3)) A1)) (E1 Af A3 (E1 Af A3 (E1 Af A3 Su)))) ⋯ ⋯ ∅ ∅))),?_⟩
 symm;refine Zk λp H1 hp O hp1=>?_;symm;have hS1:=O.seq hS;refine R6 hS1 λq H2 hq2 U a0=>?_;rw[Gs ∅,<- A3K] at a0;symm;refine ad7 (SqL.of a0) λv H3 a1 e3 hv3'=>?_;symm;refine Sx [(Sum.inr "script",.ref v),(Sum.inr "at",.int 0),(Sum.inr "left",.int 0),(Sum.inr "turn",.int 0)] (by walk_at "lk") (by rfl) (by show 4<=15;decide) λY Z h4=>?_;have en:Y p=some (.dK (Dq v 0 0 0)):=h4;refine k p v Y hp (O.free (U.free a1)) (λb o hb=>Z b o (ne_of_none hb hp) (e3 _ _ (U _ _ (O _ _ hb)))) ⟨0,0,0,_,en,Z _ _ (Ne.symm (ne_of_none (U _ _ hp1) a1)) hv3',A1W _,?_⟩;rw[A0S];omega
def C9 (K:W.Frag):Sp:=λvs H Q _=>∃ d l a xs,vs=[.ref d,.ref a]/\Feed H d l/\(SqL K H a xs\/SqT K H a xs)/\xs.length<=1000/\∀ p ys H',H p=none->ExtBut d H H'->Feed H' d l->H' p=some (.lst ys)->ys.Perm xs->Q (.ref p) H'
theorem M9 (F:Fu K "_law_shuffled" Ex f fd)(T:Dy mg)(Ah:Fnd P w K mg base 1 "_law_draw" ["_law_feed_here","_law_many"] (Bv K)):FnOk P w K mg base CX0 2 f fd ["_law_feed_here","_law_some"] (C9 K):=by
 refine F.ok Cv (λvs H Q E h=>?_) (λcdv A outer s H vs Q E hr h=>?_)
 . obtain⟨d,l,a,xs,rfl,_⟩:=h;rfl
 obtain⟨d,l,a,xs,rfl,Z,hS,hx,k⟩:=h;have hu:=Bh hr;have hq:=Bg hr
 with_reducible refine⟨_,(A2 (Ai (i:=2) Cv.nd ⋯ (by eq_refl) (Bd (Oe (K:=K)) ⋯ T.b_list PyProof.Rows.Boot.«list» (A0 (pv 1) A1)))
  (A2 (Ai (i:=3) Cv.nd ⋯ (by eq_refl) (Bm A1))
  (A2 (E4 A18 ⋯ (Cu ⋯ T.b_range (A0 (A6 (Ab (K:=K)) ⋯ T.b_len PyProof.Rows.Boot.«len» (A0 (pv 2) A1)) A1)) (Ae (i:=4) Cv.nd ⋯ (by eq_refl))
  (A5 (Do (Ig (K:=K) A1A A2M A2N (mm G3) (pv 3) (A0 (Ig (K:=K) A1A PySem.F.slot_list_pop PySem.F.type_list_pop (mm a18) (pv 2) (A0 (An Ah (hr.mono ∅) ⋯ (A0 (pv 0) (A0 (A6 (Ab (K:=K)) ⋯ T.b_len PyProof.Rows.Boot.«len» (A0 (pv 2) A1)) A1))) A1)) A1)))))
  (A5 (Aa (pv 3)))))),?_⟩
 symm;refine al0 hS λq H1 a7 e1 h1=>?_;symm;refine Br ∅ λp H2 a3 e2 h2=>?_;symm;refine Iy (by omega) ?_;have a2:H p=none:=e1.free a3;have a6:p≠q:=λz=>by subst z;rw[h1] at a3;cases a3
 refine Kp Cb (λi σ O=>∃ us vs x4,σ=[some (.ref d),some (.ref a),some (.ref q),some (.ref p),x4]/\ExtBut d H O/\Feed O d l/\O q=some (.lst us)/\O p=some (.lst vs)/\(vs++us).Perm xs/\us.length+i=xs.length/\vs.length=i)
  ⟨xs,[],none,rfl,by walk_at "fr",by walk_at "fd",by walk_at "lk",h2,by simp,rfl,rfl⟩ (λ_ _ _ _=>trivial) (λi x σ O hx3 hi hP=>?_) (fun σ O hP=>?_)
 . obtain⟨us,vs,x4,rfl,e3,U,a1,Y,a0,a5,a8⟩:=hP;obtain⟨rfl,hi2⟩:=Fs hx3;have hi3:i<xs.length:=by simpa using hi2
   symm;refine⟨d,l,_,rfl,U,by omega,by omega,λr H4 hr0 hr1 e4 hF4=>?_⟩;have h4q:H4 q=some (.lst us):=e4 _ _ (U.lst a1) a1;have h4p:H4 p=some (.lst vs):=e4 _ _ (U.lst Y) Y;have a4:r.toNat<us.length:=by omega
   symm;refine a61 h4q hr0 (A00 a4) (λH5 e5 h5q=>?_) (by omega);have h5p:H5 p=some (.lst vs):=e5 _ _ a6 h4p;symm;refine Uv h5p (by omega) λH6 e6 h6p=>?_;symm;refine⟨us.eraseIdx r.toNat,vs++[us[r.toNat]],_,rfl,by walk_at "fr",(hF4.put e5 (Z.nd a7) (Z.nl a7)).put e6 (Z.nd a2) (Z.nl a2),e6 _ _ (Ne.symm a6) h5q,h6p,?_,?_,by simp[a8]⟩
   . exact(a79 (A00 a4) vs).trans a0
   rw[List.length_eraseIdx,A0K a4];omega
 obtain⟨us,vs,x4,rfl,e3,U,a1,Y,a0,a5,a8⟩:=hP;symm
 have hu0:us=[]:=by rw[A01,A1S] at a5;exact A1D.mp (by omega)
 subst hu0;rw[A2B] at a0;exact k p vs O a2 e3 U Y a0
structure NamesO (ns:List Str):Prop where
 nm:Names ns
 ot:("other":Str)∉ns
theorem NamesO.perm {ns:List Str}(h:NamesO ns)(p:ms.Perm ns):NamesO ms:=⟨h.nm.perm p,λq=>h.ot (p.mem_iff.mp q)⟩
def otN:List Nat:=[111,116,104,101,114]
def at6:("other":Str)=txt otN:=by decide +kernel
def Rt {ls:List (List Nat)}(h:Names (ls.map txt))(h1:otN∉ls):NamesO (ls.map txt):=⟨h,λq=>by rw[at6] at q;obtain⟨l,hl,e⟩:=A0A.mp q;exact h1 (Xd e ▸ hl)⟩
def ot40:∀ s<26,∀ a<5,otN∉a91 s 5 a:=by decide +kernel
def ot41:∀ s<26,otN∉ai6 s:=by decide +kernel
def a69 {s z a:Nat}(hs:s<26)(ha:a<z)(hz:z<=8):NamesO ((a91 s z a).map txt):=Rt (ae9 hs ha hz) λq=>by obtain rfl:5=z:=aE1 hs ha hz q;exact ot40 s hs a ha q
def a53 {s:Nat}(hs:s<26):NamesO ((ai6 s).map txt):=Rt (ad4 hs) (ot41 s hs)
def a59:NamesO aD7:=⟨ao2,by decide +kernel⟩
def Gf (K:W.Frag):Sp:=λvs H Q _=>∃ d l,vs=[.ref d]/\Feed H d l/\∀ p ns H',H p=none->ExtBut d H H'->Feed H' d l->H' p=some (.lst (ns.map V.str))->NamesO ns->ns.length=10->Q (.ref p) H'
def MN (H:Hp)(d l:Addr)(way st sz F:Int):L2.St->Hp->Prop:=fun σ' H'=>∃ p ns O U,σ'=[some (V.ref d),some (.str LL),some (.int way),some (.int st),some (.int sz),some (.int F),some (.ref p),O,U]/\ExtBut d H H'/\Feed H' d l/\H' p=some (.lst (ns.map V.str))/\NamesO ns/\ns.length=10
theorem Ow (F:Fu K "_law_names" Hk f fd)(T:Dy mg)(Ah:Fnd P w K mg base 1 "_law_draw" ["_law_feed_here","_law_many"] (Bv K))(B5:Fnd P w K mg base 2 "_law_shuffled" ["_law_feed_here","_law_some"] (C9 K)):FnOk P w K mg base CX0 3 f fd ["_law_feed_here"] (Gf K):=by
 refine F.ok B6 (λvs H Q E h=>?_) (λcdv A outer s H vs Q E U h=>?_)
 . obtain⟨d,l,rfl,_⟩:=h;rfl
 obtain⟨d,l,rfl,hF,k⟩:=h;have hu:=Bh U;have hq:=Bg U
 with_reducible refine⟨_,(A2 (Ai (i:=1) B6.nd ⋯ (by with_unfolding_all exact A35 rfl) (B1 Cw Af A3))
  (A2 (Ai (i:=2) B6.nd ⋯ (by eq_refl) (An Ah (U.mono ∅) ⋯ (A0 (pv 0) (A0 A3 A1))))
  (A2 (Ai (i:=3) B6.nd ⋯ (by with_unfolding_all exact A35 rfl) (An Ah (U.mono ∅) ⋯ (A0 (pv 0) (A0 A3 A1))))
  (A2 (Ai (i:=4) B6.nd ⋯ (by eq_refl) (An Ah (U.mono ∅) ⋯ (A0 (pv 0) (A0 A3 A1))))
  (A2 (Ai (i:=5) B6.nd ⋯ (by eq_refl) (An Ah (U.mono ∅) ⋯ (A0 (pv 0) (A0 (B1 (B7 (K:=K)) (pv 4) A3) A1))))
  (A2 (Ai (i:=6) B6.nd ⋯ (by eq_refl) (Bm (A0 Af (A0 Af (A0 Af (A0 Af (A0 Af (A0 Af (A0 Af (A0 Af (A0 Af (A0 Af A1))))))))))))
  (A2 (Av (A7 (Aq (K:=K) hq) (pv 2) A3 (Ac _)) (A2 (Ai (i:=7) B6.nd ⋯ (by with_unfolding_all exact A35 rfl) (Bl (Q7 (K:=K)) (pv 1) (Bk (pv 3)) (Bk (B1 (B7 (K:=K)) (pv 3) (pv 5)))))
  (A2 (Ai (i:=8) B6.nd ⋯ (by with_unfolding_all exact A35 rfl) (Bl (Q7 (K:=K)) (pv 1) (Bk (pv 3)) (Bk (B1 Np (B1 (B7 (K:=K)) (pv 3) (pv 4)) (pv 5)))))
  (A5 (C0 (i:=6) ["_law_k"] ["_law_head","_law_letters","_law_tail"] [7,1,8] ⋯ ⋯ ⋯ B6.nd ⋯ ⋯ (Cu ⋯ T.b_range (A0 A3 A1)) (λ_ _ _ _=>(Ae (i:=0) (by with_unfolding_all (show(["_law_k","_law_head","_law_letters","_law_tail"]:List Str).Nodup;decide +kernel)) ⋯ (by eq_refl))) (Ap ∅) (λ_ _ _ _=>B2) (λ_ _ _ _=>(B1 (B7 (K:=K)) (B1 (B7 (K:=K)) (pv 1) (A9 (A4 (K:=K) hu) (pv 2) (B1 Lz (B1 Cw A3 (pv 0)) A3) (by ac_rfl))) (pv 3))))))) Ad)
  (A2 (Av (A7 (Aq (K:=K) hq) (pv 2) A3 (Ac _)) (A5 (Ai (i:=6) B6.nd ⋯ (by eq_refl) (B1 (B7 (K:=K)) (As ["_law_k"] ["_law_letters","_law_start"] [1,3] ⋯ ⋯ ⋯ (Cu ⋯ T.b_range (A0 A3 A1)) (λ_ _ _ _=>(Ae (i:=0) (by with_unfolding_all (show(["_law_k","_law_letters","_law_start"]:List Str).Nodup;decide +kernel)) ⋯ (by eq_refl))) (Ap ∅) (λ_ _ _ _=>B2) (λ_ _ _ _=>(Bl (Q7 (K:=K)) (pv 1) (Bk (pv 2)) (Bk (B1 (B7 (K:=K)) (B1 (B7 (K:=K)) (pv 2) A3) (pv 0)))))) (Bm (A0 (A9 (A4 (K:=K) hu) (pv 1) (B1 (B7 (K:=K)) (pv 3) A3) (by ac_rfl)) (A0 (A9 (A4 (K:=K) hu) (pv 1) (B1 (B7 (K:=K)) (pv 3) A3) (by ac_rfl)) A1)))))) Ad)
  (A5 (Aa (An B5 (U.mono ∅) ⋯ (A0 (pv 0) (A0 (pv 6) A1))))))))))))),?_⟩
 symm;refine ae7 ∅ ?_;rw[ay8];symm;refine⟨d,l,_,rfl,hF,by omega,by omega,λway H1 hw0 hw1 e1 hF1=>?_⟩;symm;refine⟨d,l,_,rfl,hF1,by omega,by omega,λst H2 a3 hs1 e2 hF2=>?_⟩;symm;refine⟨d,l,_,rfl,hF2,by omega,by omega,λsz H3 hz0 hz1 e3 hF3=>?_⟩;symm;refine⟨d,l,_,rfl,hF3,by omega,by omega,λO H4 ha0 ha1 e4 hF4=>?_⟩;symm;refine Br ∅ λp5 H5 hp5 e5 h5=>?_;walk_at "rq";have fr4:ExtBut d H H4:=by walk_at "fr"
 have hF5:Feed H5 d l:=by walk_at "fd"
 with_reducible refine N1 (MN H d l way st sz O) (λN hN=>?_) (fun σ1 H6 hM=>?_)
 . walk_at "rq";refine Gw (λhw=>?_) (λhw=>?_)
   . walk_at "rq";refine Iy (by omega) ?_;have c1:=Y5 (i:=st) (j:=st+O) a3 (by omega) (by omega);have c2:=Y5 (i:=st) (j:=st+sz-O) (by omega) (by omega) (by omega);rw[c1,c2];refine Pm Cb (fI λk=>.str (txt (P6 st.toNat (st+O).toNat)++txt (Qa (7*k % 26).toNat)++txt (P6 st.toNat (st+sz-O).toNat))) (by simp) (λ_ _=>trivial) (λi x H8 R hx Z hR=>?_) (λp8 H8 hp8 Z Y=>?_)
     . obtain⟨rfl,hi⟩:=Fs hx;have hm0:=A3J (7*(0+(i:Int))) (show(26:Int)≠0 by decide);have hm1:=A2Y (7*(0+(i:Int))) (show(0:Int)<26 by decide);obtain⟨c,hc,ec⟩:=am8 (i:=7*(0+(i:Int)) % 26) (by omega) (by omega);walk_at "rq";refine ag6 To hc ?_;rw[ec];have l1:(txt (P6 st.toNat (st+O).toNat)).length<=52:=by show(P6 _ _).toArray.size<=_;unfold P6;simp[L4];omega
       have l2:(txt (P6 st.toNat (st+sz-O).toNat)).length<=52:=by show(P6 _ _).toArray.size<=_;unfold P6;simp[L4];omega
       have l3:(txt (Qa (7*(0+(i:Int)) % 26).toNat)).length<=52:=by show(Qa _).toArray.size<=_;unfold Qa;simp[L4];omega
       refine i_addS (Ak (by omega)) ?_;have l4:(txt (P6 st.toNat (st+O).toNat)++txt (Qa (7*(0+(i:Int)) % 26).toNat)).length<=104:=by rw[Str.length_append];omega
       walk_at "rq";exact hR
     rw[Ye (G:=λk=>txt (P6 st.toNat (st.toNat+O.toNat)++Qa (7*k % 26)++P6 st.toNat (st.toNat+(1+sz).toNat-O.toNat-1))) (λk hk=>by
      have q1:(st+O).toNat=st.toNat+O.toNat:=by omega
      have q2:(7*(0+(k:Int)) % 26).toNat=7*k % 26:=by omega
      have q4:(st+sz-O).toNat=st.toNat+(1+sz).toNat-O.toNat-1:=by omega
      rw[q1,q2,q4,Ya,Ya])] at Y
     walk_at "rq";refine hN _ _ ⟨p8,(a91 st.toNat (1+sz).toNat O.toNat).map txt,_,_,rfl,by walk_at "fr",by walk_at "fd",?_,a69 (by omega) (by omega) (by omega),by simp[a91]⟩;rw[Y];simp[a91,Function.comp_def]
   walk_at "rq";refine hN _ _ ⟨p5,aD7,none,none,rfl,by walk_at "fr",hF5,h5,a59,rfl⟩
 obtain⟨p,ns,x7,x8,rfl,e6,hF6,h6,hN6,hl6⟩:=hM
 with_reducible refine N1 (MN H d l way st sz O) (λN hN=>?_) (fun σ1 H7 hM=>?_)
 . walk_at "rq";refine Gw (λhw=>?_) (λhw=>?_)
   . walk_at "rq";refine Iy (by omega) ?_;refine Pm Cb (fI λk=>.str (Txt.slice LL (some st) (some (st+1+k)))) (by simp) (λ_ _=>trivial) (λi x H6 R hx e6 hR=>?_) (λp6 H7 hp6 e7 h7=>?_)
     . obtain⟨rfl,hi⟩:=Fs hx;walk_at "rq";exact hR
     rw[Ye (G:=λk=>txt (P6 st.toNat (st.toNat+1+k))) (λk hk=>by
      have e:=Y5 (i:=st) (j:=st+1+(0+(k:Int))) a3 (by omega) (by have:((8:Int)).toNat=8:=rfl;omega);have e2:(st+1+(0+(k:Int))).toNat=st.toNat+1+k:=by omega
      rw[e2] at e;rw[e])] at h7
     obtain⟨c9,hc9,e9⟩:=am8 (i:=st+9) (by omega) (by omega);obtain⟨c11,hc11,e11⟩:=am8 (i:=st+11) (by omega) (by omega);walk_at "rq";refine ag6 To hc9 ?_;walk_at "rq";refine ag6 To hc11 ?_;walk_at "rq";refine Br (Ak (by simp)) λp8 H8 hp8 Z Y=>?_;refine Ly (by walk_at "lk") Y (by simp[sizeLine_eq]) λp9 H9 a1 e9' h9=>?_;walk_at "rq";refine hN _ _ ⟨p9,(ai6 st.toNat).map txt,_,_,rfl,by walk_at "fr",by walk_at "fd",?_,a53 (by omega),by simp[ai6]⟩;rw[h9,e9,e11];have q9:(st+9).toNat=st.toNat+9:=by omega
     have q10:(st+11).toNat=st.toNat+11:=by omega
     rw[q9,q10];simp[ai6,Function.comp_def]
   walk_at "rq";exact hN _ _ ⟨p,ns,x7,x8,rfl,e6,hF6,h6,hN6,hl6⟩
 obtain⟨p2,ms,y7,y8,rfl,Z,a0,Y,hN8,hl8⟩:=hM;symm;refine⟨d,l,p2,_,rfl,a0,.inl (SqL.of Y),by rw[A01];omega,λp9 ys9 H9 a1 e9 hF9 h9 hperm=>?_⟩;obtain⟨ls,rfl,a2⟩:=Lp hperm;exact k p9 ls H9 (a0.free Z a1) (Z.trans e9) hF9 h9 (hN8.perm a2) (by rw[a2.length_eq,hl8])
def Wb:PyData->Bool
 |.tuple _=>true
 |_=>false
def aC4:PyData->Bool
 |.str _=>true
 |_=>false
def Ep (h:Is K H D v)(k:Q (.bl (Wb D)) H):Ge K [v,.ty "tuple"] H Q:=by
 cases D with
 |none=>simp only[Is] at h;subst h;exact F7 .non (b:=false) (by rfl) k
 |bool b=>simp only[Is] at h;subst h;exact F7 (.bl b) (b:=false) (by rfl) k
 |int b=>simp only[Is] at h;subst h;exact F7 (.int b) (b:=false) (by rfl) k
 |str b=>simp only[Is] at h;subst h;exact F7 (.str b) (b:=false) (by rfl) k
 |list ds=>simp only[Is] at h;obtain⟨a,xs,rfl,h1,_⟩:=h;exact V2 h1 (b:=false) (by rfl) k
 |tuple ds=>simp only[Is] at h;obtain⟨a,xs,rfl,h1,_⟩:=h;exact Vf h1 (b:=true) (by rfl) k
 |dict _=>simp only[Is] at h
def as6 (h:Is K H D v)(k:Q (.bl (aC4 D)) H):Ge K [v,.ty "str"] H Q:=by
 cases D with
 |none=>simp only[Is] at h;subst h;exact F7 .non (b:=false) (by rfl) k
 |bool b=>simp only[Is] at h;subst h;exact F7 (.bl b) (b:=false) (by rfl) k
 |int b=>simp only[Is] at h;subst h;exact F7 (.int b) (b:=false) (by rfl) k
 |str b=>simp only[Is] at h;subst h;exact F7 (.str b) (b:=true) (by rfl) k
 |list ds=>simp only[Is] at h;obtain⟨a,xs,rfl,h1,_⟩:=h;exact V2 h1 (b:=false) (by rfl) k
 |tuple ds=>simp only[Is] at h;obtain⟨a,xs,rfl,h1,_⟩:=h;exact Vf h1 (b:=false) (by rfl) k
 |dict _=>simp only[Is] at h
def M5 (h:SqT K H a xs)(k:Q (.int xs.length) H):R3 K [.ref a] H Q:=.inl ⟨.ref a,_,rfl,.inr ⟨xs,h,rfl⟩,k⟩
theorem Xh:∀ {ds:List PyData} {e:PyData},e∈ds->e.weight<=PyData.weightAll ds
 |d :: ds,e,h=>by
   simp only[PyData.weightAll];rcases A0G.mp h with rfl|h
   . omega
   have:=Xh h;omega
def az:Str:="abcdefghijklmnopqrstuvwxyz"
def Vu (c:Nat):Bool:=!(Builtin.Str.occurrences az ⟨#[c]⟩ 0 az.length 1).isEmpty
def Ew (x:Str):Bool:=decide (1<=x.length)&&decide (x.length<=8)&&x.cps.toList.all Vu
def Vx:PyData->Bool
 |.str x=>Ew x
 |_=>false
def Lg (K:PySem.W.Frag):Sp:=λvs H Q _=>∃ v D n w W,vs=[v]/\Is K H D v/\Dk n w W D/\w<=1000000/\∀ H',Same H H'->Q (.bl (Vx D)) H'
def a22 (h:aC4 D=false):Vx D=false:=by cases D<;>first | rfl | cases h
theorem Wn (F:Fu K "is_name" N2 f fd)(T:Dy mg):FnOk P w K mg base CX0 1 f fd ["thing"] (Lg K):=by
 refine F.ok Wr (λvs H Q E h=>?_) (λa0 A outer s H vs Q E Y h=>?_)
 . obtain⟨v,D,n,w,W,rfl,_⟩:=h;rfl
 obtain⟨v,D,n,w,W,rfl,U,hD,hw,k⟩:=h;have hu:=Bh Y;have hq:=Bg Y
 with_reducible refine⟨_,(A2 (Av (Bj (B8 (A6 (Al (K:=K)) ⋯ T.b_isinstance PyProof.Rows.Boot.«isinstance» (A0 (pv 0) (A0 (B9 (v:=.ty "str") ⋯ T.b_str PyProof.Rows.Boot.«str» ⋯) A1))))) (A5 (Aa E6)) Ad)
  (A2 (Av (PW.pt (E9 (A7 Ws (A6 (Ab (K:=K)) ⋯ T.b_len PyProof.Rows.Boot.«len» (A0 (pv 0) A1)) A3 (Ac _)) (Dj (A7 Vs (A6 (Ab (K:=K)) ⋯ T.b_len PyProof.Rows.Boot.«len» (A0 (pv 0) A1)) (Kv ⋯ T.g_MOST_SIGNS) (Ac _))))) (A5 (Aa E6)) Ad)
  (A5 (Aa (A6 (Ib (K:=K) ⋯) ⋯ T.b_all PyProof.Rows.Boot.«all» (A0 (As ["sign"] [] [] ⋯ ⋯ ⋯ (Ao (K:=K) hu (pv 0)) (λ_ _ _ _=>(Ae (i:=0) (by with_unfolding_all (show(["sign"]:List Str).Nodup;decide +kernel)) ⋯ (by eq_refl))) (Ap ∅) (λ_ _ _ _=>B2) (λ_ _ _ _=>(At (D3 (K:=K) hq) (pv 0) (Kv ⋯ T.g_SMALL_LETTERS) ⋯))) A1)))))),?_⟩
 symm
 cases hT:aC4 D with
 |true=>
   obtain⟨x,rfl⟩:∃ z,D = .str z:=by cases D<;>first | exact⟨_,rfl⟩ | cases hT
   have O:v = .str x:=by simpa only[Is] using U
   subst O;have hx:x.length<=1000000:=A0M hD.str.2 hw;have k:∀ H',Same H H'->Q (.bl (Ew x)) H':=k;refine F7 (TyOf.str x) (b:=true) (by rfl) ?_;symm;refine Gw (λh1=>?_) (λh1=>?_)
   . symm
     have e:Ew x=false:=by unfold Ew;rw[A0H (by omega:¬ 1<=x.length)];rfl
     have:=k H (Same.refl H);rw[e] at this;exact this
   symm;refine Gw (λh2=>?_) (λh2=>?_)
   . symm
     have e:Ew x=false:=by unfold Ew;rw[A0H (by omega:¬ x.length<=8),A50];rfl
     have:=k H (Same.refl H);rw[e] at this;exact this
   symm;refine Pm (Ua x) (λv=>.bl (match v with | .str z=>!(Builtin.Str.occurrences az z 0 az.length 1).isEmpty | _=>false)) (by rw[A01,A1O];exact hx) (λ_ _=>trivial) (λi v H1 R O e hR=>?_) λp H' hp e h=>?_
   . obtain⟨c,rfl,_⟩:=a14 O;symm;exact hR
   symm
   have Z:(x.cps.toList.map λc=>V.str ⟨#[c]⟩).map (λv=>V.bl (match v with | .str z=>!(Builtin.Str.occurrences az z 0 az.length 1).isEmpty | _=>false))=(x.cps.toList.map Vu).map V.bl:=by rw[A1H,A1H];rfl
   rw[Z] at h;refine Zg (SqL.of h) ?_
   have e2:Ew x=(x.cps.toList.map Vu).all id:=by unfold Ew;rw[A0D (by omega:1<=x.length),A0D (by omega:x.length<=8),A3T];rfl
   have:=k H' e;rw[e2] at this;exact this
 |false=>have k:=k H (Same.refl H);rw[a22 hT] at k;refine as6 U ?_;rw[hT];symm;exact k
theorem Ve {α:Type}[DecidableEq α]:∀ {as bs:List α},as.Nodup->(∀ z∈as,z∈bs)->bs.length<=as.length->as.Perm bs
 | [],bs,_,_,hl=>by rw[A1D.mp (Nat.le_zero.mp hl)]
 |a :: as,bs,hn,hs,hl=>by have ha:a∈bs:=hs a (by simp);obtain⟨h1,h2⟩:=A12.mp hn;have F:=Ve (as:=as) (bs:=bs.erase a) h2 (λz hz=>(List.mem_erase_of_ne (λe:z=a=>h1 (by rw[<- e];exact hz))).mpr (hs z (by simp[hz]))) (by rw[List.length_erase_of_mem ha];simp at hl;omega);exact(List.Perm.cons a F).trans (List.perm_cons_erase ha).symm
def UnD (D:PyData):Prop:=∃ ns:List Str,D=nmD ns/\(∀ z∈ns,Ew z=true)/\ns.Nodup
def a62 {ds:List PyData}(h:∀ e∈ds,Vx e=true):∃ ns:List Str,ds=ns.map PyData.str/\∀ z∈ns,Ew z=true:=by
 induction ds with
 |nil=>exact⟨[],rfl,λz hz=>by cases hz⟩
 |cons d ds ih=>
   obtain⟨ns,rfl,hn⟩:=ih λe F=>h e (A0I _ F);have:=h d (by simp)
   cases d with
   |str z=>exact⟨z :: ns,rfl,λy O=>(A0G.mp O).elim (λe=>by rw[e];exact this) (hn y)⟩
   |_=>cases this
def C3 (K:PySem.W.Frag):Sp:=λvs H Q _=>∃ v D n w W,vs=[v]/\Is K H D v/\Dk n w W D/\w<=1000000/\W<=1000/\∀ b H',Same H H'->(b=true↔UnD D)->Q (.bl b) H'
theorem Jf (F:Fu K "are_unlike_names" Df f fd)(T:Dy mg)(N8:Fnd P w K mg base 1 "is_name" ["thing"] (Lg K)):FnOk P w K mg base CX0 2 f fd ["thing"] (C3 K):=by
 refine F.ok J6 (λvs H Q E h=>?_) (λcdv A outer s H vs Q E Z h=>?_)
 . obtain⟨v,D,n,w,W,rfl,_⟩:=h;rfl
 obtain⟨v,D,n,w,W,rfl,hI,hD,hw,hW,k⟩:=h;have hu:=Bh Z;have hq:=Bg Z
 with_reducible refine⟨_,(A2 (Av (Bj (B8 (A6 (Al (K:=K)) ⋯ T.b_isinstance PyProof.Rows.Boot.«isinstance» (A0 (pv 0) (A0 (B9 (v:=.ty "tuple") ⋯ T.b_tuple PyProof.Rows.Boot.«tuple» ⋯) A1))))) (A5 (Aa E6)) Ad)
  (A2 (Av (Bj (B8 (A6 (Ib (K:=K) ⋯) ⋯ T.b_all PyProof.Rows.Boot.«all» (A0 (As ["name"] [] [] ⋯ ⋯ ⋯ (Ao (K:=K) hu (pv 0)) (λ_ _ _ _=>(Ae (i:=0) (by with_unfolding_all (show(["name"]:List Str).Nodup;decide +kernel)) ⋯ (by eq_refl))) (Ap ∅) (λ_ _ _ _=>B2) (λ_ _ _ _=>(An N8 (Z.mono ∅) ⋯ (A0 (pv 0) A1)))) A1)))) (A5 (Aa E6)) Ad)
  (A5 (Aa (At (Aq (K:=K) hq) (Qc (K:=K) Z.hd ⋯ T.b_len ⋯ T.b_set (A0 (pv 0) A1)) (A6 (Ab (K:=K)) ⋯ T.b_len PyProof.Rows.Boot.«len» (A0 (pv 0) A1)) (Ac _)))))),?_⟩
 symm;refine Ep hI ?_
 cases hT:Wb D with
 |false=>
   symm;refine k false H (.refl H) ⟨λh=>(by cases h),λ⟨ns,e,_⟩=>?_⟩;rw[e] at hT
   cases hT
 |true=>
   obtain⟨ds,rfl⟩:∃ ds,D = .tuple ds:=by cases D<;>first | exact⟨_,rfl⟩ | cases hT
   obtain⟨va,xs,rfl,Y,hX⟩:=hI.tup;have hxl:=IsL.length hX;obtain⟨m,rfl⟩:∃ m,n=m+1:=⟨n-1,by have:=hD.dp;simp only[PyData.depth] at this;omega⟩;have hE:=hD.els;have hwl:ds.length<=W:=hE.len;symm;refine Ix Y ?_;refine Kf (K:=K) (By (xs:=xs)) ds hxl Vx (by omega) (λH' e=>e.seqT Y) (λi z xv H1 R a2 hxv O hR=>?_) (λq H1 hq1 O h1=>?_)
   . obtain⟨d',a0,hIz⟩:=IsL.get (IsL.mono O _ _ hX) hxv;rw[a2] at a0
     cases a0;have a1:=A05 a2;obtain⟨uu,U⟩:=hE.all z a1;symm;exact⟨xv,z,m,w,W,rfl,hIz,⟨U.asc,U.lay,U.sh,U.lv,U.dp,A0M (Xh a1) hE.wt,U.wd⟩,by omega,hR⟩
   symm;refine Zg h1 ?_
   cases hA:(ds.map Vx).all id with
   |false=>
     symm;refine k false H1 O ⟨λh=>(by cases h),λ⟨ns,e,hn,_⟩=>?_⟩;injection e with e;subst e;rw[A3T,A3T] at hA;have:ns.all ((id∘Vx)∘PyData.str)=true:=A0L.mpr λz hz=>hn z hz;rw[this] at hA
     cases hA
   |true=>
     rw[A3T,A0L] at hA;obtain⟨ns,rfl,hn⟩:=a62 hA;have exs:=IsL.str_eq hX;subst exs;rw[A01] at hwl;symm;refine U8 (O.seqT Y) (by omega) ?_;symm;refine M5 (O.seqT Y) ?_;symm;refine k _ H1 O ?_;rw[A1M,A01];constructor
     . intro h;have h:=V.int.inj h;have hlen:(Cp [] ns).length=ns.length:=by omega
       have hp:=Ve (E8 (ms:=ns) (ks:=[]) .nil) (λz hz=>(mem_addAll.mp hz).elim (λh=>by cases h) id) (by omega);exact⟨ns,rfl,hn,hp.nodup_iff.mp (E8 .nil)⟩
     rintro⟨ns',e,_,hnd⟩;have e:ns.map PyData.str=ns'.map PyData.str:=by injection e
     have e2:ns=ns':=by
      have:=congrArg (List.map λd=>match d with | PyData.str z=>z | _=>("":Str)) e
      simpa[List.map_map,Function.comp_def] using this
     rw[e2,S5 hnd]
def TnD (D:PyData):Prop:=∃ ns:List Str,D=nmD ns/\(∀ z∈ns,Ew z=true)/\ns.Nodup/\ns.length<=10
def Ds (K:PySem.W.Frag):Sp:=λvs H Q _=>∃ v D n w W,vs=[v]/\Is K H D v/\Dk n w W D/\w<=1000000/\W<=1000/\∀ b H',Same H H'->(b=true↔TnD D)->Q (.bl b) H'
def Yj {ns:List Str}(h:nmD ns=nmD ms):ns=ms:=by
 have e:ns.map PyData.str=ms.map PyData.str:=by injection h
 have:=congrArg (List.map λd=>match d with | PyData.str z=>z | _=>("":Str)) e
 simpa[List.map_map,Function.comp_def] using this
theorem Li (F:Fu K "are_tale_names" Ef f fd)(T:Dy mg)(Bf:Fnd P w K mg base 2 "are_unlike_names" ["thing"] (C3 K)):FnOk P w K mg base CX0 3 f fd ["thing"] (Ds K):=by
 refine F.ok Kr (λvs H Q E h=>?_) (λcdv A outer s H vs Q E U h=>?_)
 . obtain⟨v,D,n,w,W,rfl,_⟩:=h;rfl
 obtain⟨v,D,n,w,W,rfl,Y,hD,hw,hW,k⟩:=h;have hu:=Bh U;have hq:=Bg U
 with_reducible refine⟨_,(A5 (Aa (Cm (An Bf (U.mono ∅) ⋯ (A0 (pv 0) A1)) (D9 (At Tj (A6 (Ab (K:=K)) ⋯ T.b_len PyProof.Rows.Boot.«len» (A0 (pv 0) A1)) (Kv ⋯ T.g_MOST_NAMES) (Ac _)))))),?_⟩
 symm;refine⟨v,D,n,w,W,rfl,Y,hD,hw,hW,λb H1 O Z=>?_⟩
 cases b with
 |false=>symm;exact k false H1 O ⟨λh=>(by cases h),λ⟨ns,e,h1,h2,_⟩=>Z.mpr ⟨ns,e,h1,h2⟩⟩
 |true=>obtain⟨ns,rfl,h1,h2⟩:=Z.mp rfl;have hI1:=Y.nm_fz O.fz;symm;refine S0 hI1 ?_;symm;refine k _ H1 O ?_;rw[A1M];exact⟨λh=>⟨ns,rfl,h1,h2,by omega⟩,λ⟨ms,e,_,_,h⟩=>by rw[Yj e];omega⟩
def ah4 (ns:List Str)(D:PyData):Prop:=∃ x y,D=prD (x,y)/\x∈ns/\y∈ns
def inD (ns:List Str):PyData->Bool
 |.str z=>decide (z∈ns)
 |_=>false
def Y2 (ns:List Str)(d:PyData):(ns.map PyData.str).any (λe=>PyData.eqv e d)=inD ns d:=by
 cases d with
 |str z=>
   rw[A4R,A15,A2U];show _↔decide (z∈ns)=true;rw[A1M];constructor
   . rintro⟨y,F,h⟩;have h:PyData.eqv (.str y) (.str z)=true:=h;simp only[PyData.eqv] at h;have:y=z:=by simpa using h
     rw[<- this];exact F
   intro h;refine⟨z,h,?_⟩;show PyData.eqv (.str z) (.str z)=true;simp only[PyData.eqv];simp
 |_=>rw[A4R];refine A32.mpr λy _=>?_;simp only[Function.comp,PyData.eqv];simp
def ag3 (ns:List Str) (F O:PyData):(inD ns F=true/\inD ns O=true)↔ah4 ns (.tuple [F,O]):=by
 constructor
 . rintro⟨U,h1⟩
   cases F with
   |str x=>
     cases O with
     |str y=>exact⟨x,y,rfl,A13 U,A13 h1⟩
     |_=>cases h1
   |_=>cases U
 rintro⟨x,y,e,Y,Z⟩;have e:F = .str x/\O = .str y:=by simpa[prD] using e
 rw[e.1,e.2];exact⟨A0D Y,A0D Z⟩
def Hf (K:PySem.W.Frag):Sp:=λvs H Q _=>∃ v u D n w W ns n' O F,vs=[v,u]/\Is K H D v/\Dk n w W D/\n<=60/\Is K H (nmD ns) u/\Dk n' O F (nmD ns)/\∀ b H',Same H H'->(b=true↔ah4 ns D)->Q (.bl b) H'
theorem Rv (F:Fu K "is_saying" Jr f fd)(T:Dy mg):FnOk P w K mg base CX0 1 f fd ["thing","names"] (Hf K):=by
 refine F.ok Sk (λvs H Q E h=>?_) (λcdv A outer s H vs Q E hr h=>?_)
 . obtain⟨v,u,D,n,w,W,ns,n',w',W',rfl,_⟩:=h;rfl
 obtain⟨v,u,D,n,w,W,ns,n',w',W',rfl,hI,hD,hn60,hU,hN,k⟩:=h;have hu:=Bh hr;have hq:=Bg hr
 with_reducible refine⟨_,(A5 (Aa (Cm (A6 (Al (K:=K)) ⋯ T.b_isinstance PyProof.Rows.Boot.«isinstance» (A0 (pv 0) (A0 (B9 (v:=.ty "tuple") ⋯ T.b_tuple PyProof.Rows.Boot.«tuple» ⋯) A1))) (Cm (At (Aq (K:=K) hq) (A6 (Ab (K:=K)) ⋯ T.b_len PyProof.Rows.Boot.«len» (A0 (pv 0) A1)) A3 (Ac _)) (Cm (At (D3 (K:=K) hq) (A9 (A4 (K:=K) hu) (pv 0) A3 (by ac_rfl)) (pv 1) ⋯) (D9 (At (D3 (K:=K) hq) (A9 (A4 (K:=K) hu) (pv 0) A3 (by ac_rfl)) (pv 1) ⋯))))))),?_⟩
 symm;refine Ep hI ?_
 cases hT:Wb D with
 |false=>
   symm;refine k false H (.refl H) ⟨λh=>(by cases h),λ⟨x,y,e,_⟩=>?_⟩;rw[e] at hT
   cases hT
 |true=>
   obtain⟨ds,rfl⟩:∃ ds,D = .tuple ds:=by cases D<;>first | exact⟨_,rfl⟩ | cases hT
   obtain⟨va,xs,rfl,Z,hX⟩:=hI.tup;have a0:=IsL.length hX;obtain⟨m,rfl⟩:∃ m,n=m+1:=⟨n-1,by have:=hD.dp;simp only[PyData.depth] at this;omega⟩;have hE:=hD.els;symm;refine M5 Z ?_;symm;refine Gw (λY=>?_) (λY=>?_)
   . have Y:xs.length=2:=by have:=V.int.inj Y;omega
     obtain⟨O,U,rfl⟩:∃ O U,ds=[O,U]:=by
      match ds,a0.trans Y with
      | [a,b],_=>exact⟨a,b,rfl⟩
     obtain⟨x0,x1,rfl⟩:∃ O U,xs=[O,U]:=by
      match xs,Y with
      | [a,b],_=>exact⟨a,b,rfl⟩
     simp only[L2.IsL] at hX;obtain⟨_,_,e0,i0,_,_,e1,i1,_⟩:=hX
     cases e0
     cases e1;obtain⟨u0,k0⟩:=hE.all O (by simp);obtain⟨u1,k1⟩:=hE.all U (by simp);have a1:PyData.canLayAll0 (ns.map PyData.str)=true:=by have:=hN.lay;simpa only[nmD,PyData.canLay0] using this
     have iff:∀ b:Bool,(b=true↔inD ns O=true/\inD ns U=true)->(b=true↔ah4 ns (.tuple [O,U])):=λb hb=>hb.trans (ag3 ns O U);symm;refine Au Z (show atI _ 0=some x0 from rfl) ?_;symm;refine ai2 i0 (.inr hU) a1 k0.lay (A0M k0.dp (by omega)) ?_;rw[Y2]
     cases h0:inD ns O with
     |false=>symm;exact k false H (.refl H) (iff false ⟨λh=>(by cases h),λh=>(by rw[h0] at h;exact h.1)⟩)
     |true=>symm;refine Au Z (show atI _ 1=some x1 from rfl) ?_;symm;refine ai2 i1 (.inr hU) a1 k1.lay (A0M k1.dp (by omega)) ?_;rw[Y2];exact k _ H (.refl H) (iff _ ⟨λh=>⟨h0,h⟩,λh=>h.2⟩)
   refine k false H (.refl H) ⟨λh=>(by cases h),λ⟨x,y,e,_⟩=>?_⟩;have e:ds=[.str x,.str y]:=by simpa only[prD,PyData.tuple.injEq] using e
   rw[e] at a0;exact absurd (by rw[<- a0];rfl) Y
def aE4 (ns:List Str):Prop:=(∀ z∈ns,Ew z=true)/\ns.Nodup/\ns.length<=10
def FrD (D:PyData):Prop:=∃ ns es,D = .tuple [nmD ns,.tuple es]/\aE4 ns/\es.length<=60
def TaD (D:PyData):Prop:=∃ ns es,D = .tuple [nmD ns,.tuple es]/\aE4 ns/\es.length<=60/\∀ e∈es,ah4 ns e
def tn_of:TnD D↔∃ ns,D=nmD ns/\aE4 ns:=⟨λ⟨ns,e,h1,h2,F⟩=>⟨ns,e,h1,h2,F⟩,λ⟨ns,e,h1,h2,F⟩=>⟨ns,e,h1,h2,F⟩⟩
def aa4 {ds:List PyData}(h:IsL K H ds xs)(hl:xs.length=2):∃ F O U Y,ds=[F,O]/\xs=[U,Y]/\Is K H F U/\Is K H O Y:=by
 have hd:=(IsL.length h).trans hl
 match ds,xs,hd,hl,h with
 | [F,O],[U,Y],_,_,h=>
   simp only[L2.IsL] at h;obtain⟨_,_,Z,i0,_,_,e1,i1,_⟩:=h
   cases Z
   cases e1;exact⟨F,O,U,Y,rfl,rfl,i0,i1⟩
def Ec (K:PySem.W.Frag):Sp:=λvs H Q _=>∃ v D n w W,vs=[v]/\Is K H D v/\Dk n w W D/\w<=1000000/\W<=1000/\∀ b H',Same H H'->(b=true↔FrD D)->Q (.bl b) H'
theorem M7 (F:Fu K "is_tale_frame" Ez f fd)(T:Dy mg)(En:Fnd P w K mg base 3 "are_tale_names" ["thing"] (Ds K)):FnOk P w K mg base CX0 4 f fd ["thing"] (Ec K):=by
 refine F.ok M6 (λvs H Q E h=>?_) (λcdv A outer s H vs Q E hr h=>?_)
 . obtain⟨v,D,n,w,W,rfl,_⟩:=h;rfl
 obtain⟨v,D,n,w,W,rfl,hI,hD,hw,hW,k⟩:=h;have hu:=Bh hr;have hq:=Bg hr
 with_reducible refine⟨_,(A2 (Av (PW.pt (E9 (Bj (B8 (A6 (Al (K:=K)) ⋯ T.b_isinstance PyProof.Rows.Boot.«isinstance» (A0 (pv 0) (A0 (B9 (v:=.ty "tuple") ⋯ T.b_tuple PyProof.Rows.Boot.«tuple» ⋯) A1))))) (Dj (A7 (C8 (K:=K) hq) (A6 (Ab (K:=K)) ⋯ T.b_len PyProof.Rows.Boot.«len» (A0 (pv 0) A1)) A3 (Ac _))))) (A5 (Aa E6)) Ad)
  (A2 (Av (Bj (B8 (An En (hr.mono ∅) ⋯ (A0 (A9 (A4 (K:=K) hu) (pv 0) A3 (by ac_rfl)) A1)))) (A5 (Aa E6)) Ad)
  (A5 (Aa (Cm (A6 (Al (K:=K)) ⋯ T.b_isinstance PyProof.Rows.Boot.«isinstance» (A0 (A9 (A4 (K:=K) hu) (pv 0) A3 (by ac_rfl)) (A0 (B9 (v:=.ty "tuple") ⋯ T.b_tuple PyProof.Rows.Boot.«tuple» ⋯) A1))) (D9 (At Tj (A6 (Ab (K:=K)) ⋯ T.b_len PyProof.Rows.Boot.«len» (A0 (A9 (A4 (K:=K) hu) (pv 0) A3 (by ac_rfl)) A1)) (Kv ⋯ T.g_MOST_SAYINGS) (Ac _)))))))),?_⟩
 symm;refine Ep hI ⟨_,rfl,?_⟩
 cases hT:Wb D with
 |false=>
   symm;refine k false H (.refl H) ⟨λh=>(by cases h),λ⟨ns,es,e,_⟩=>?_⟩;rw[e] at hT
   cases hT
 |true=>
   obtain⟨ds,rfl⟩:∃ ds,D = .tuple ds:=by cases D<;>first | exact⟨_,rfl⟩ | cases hT
   obtain⟨va,xs,rfl,hS,hX⟩:=hI.tup;have a0:=IsL.length hX;obtain⟨m,rfl⟩:∃ m,n=m+1:=⟨n-1,by have:=hD.dp;simp only[PyData.depth] at this;omega⟩;have hE:=hD.els;symm;refine M5 hS ?_;symm;refine M0 (λhc=>?_) (λhc=>?_)
   . symm;refine k false H (.refl H) ⟨λh=>(by cases h),λ⟨ns,es,e,_⟩=>?_⟩;have e:ds=[nmD ns,.tuple es]:=by simpa only[PyData.tuple.injEq] using e
     rw[e] at a0;exact absurd (by rw[<- a0];rfl) hc
   obtain⟨Z,O,x0,x1,rfl,rfl,i0,i1⟩:=aa4 hX (by have:=V.int.inj hc;omega);obtain⟨u0,Y⟩:=hE.all Z (by simp);obtain⟨u1,k1⟩:=hE.all O (by simp);have w0:Z.weight<=w:=Nat.le_trans (Xh (by simp)) hE.wt;symm;refine Au hS (show atI _ 0=some x0 from rfl) ?_;symm;refine⟨x0,Z,m,w,W,rfl,i0,⟨Y.asc,Y.lay,Y.sh,Y.lv,Y.dp,w0,Y.wd⟩,hw,hW,λb H1 U hb=>?_⟩
   cases b with
   |false=>
     symm;refine k false H1 U ⟨λh=>(by cases h),λ⟨ns,es,e,h1,_⟩=>?_⟩;have e:Z=nmD ns/\O = .tuple es:=by simpa using e
     exact hb.mpr (tn_of.mpr ⟨ns,e.1,h1⟩)
   |true=>
     obtain⟨ns,rfl,hns⟩:=tn_of.mp (hb.mp rfl);symm;refine Au (U.seqT hS) (show atI _ 1=some x1 from rfl) ?_;symm;have a1:=Is.mono U _ _ i1;refine Ep a1 ?_
     cases hT1:Wb O with
     |false=>
       symm;refine k false H1 U ⟨λh=>(by cases h),λ⟨ns',es,e,h1,_⟩=>?_⟩;have e:nmD ns=nmD ns'/\O = .tuple es:=by simpa using e
       rw[e.2] at hT1
       cases hT1
     |true=>
       obtain⟨es,rfl⟩:∃ ds,O = .tuple ds:=by cases O<;>first | exact⟨_,rfl⟩ | cases hT1
       obtain⟨ea,ys,rfl,hS1,hY⟩:=a1.tup;have hyl:=IsL.length hY;symm;refine Au (U.seqT hS) (show atI _ 1=some (.ref ea) from rfl) ?_;symm;refine M5 hS1 ?_;symm;refine k _ H1 U ?_;rw[A1M];constructor
       . exact λh=>⟨ns,es,rfl,hns,by omega⟩
       rintro⟨ns',es',e,_,h⟩;have e:nmD ns=nmD ns'/\es=es':=by simpa using e
       rw[<- e.2] at h;omega
def Ch (K:PySem.W.Frag):Sp:=λvs H Q _=>∃ v ns es n w W,vs=[v]/\Is K H (.tuple [nmD ns,.tuple es]) v/\Dk n w W (.tuple [nmD ns,.tuple es])/\n<=60/\es.length<=60 /\
 ∀ r H',Same H H'->((r = .non/\∀ e∈es,ah4 ns e)\/∃ i:Nat,r = .int (i:Int)/\¬ ∀ e∈es,ah4 ns e)->Q r H'
theorem Ic (F:Fu K "first_wrong_saying" Cq f fd)(T:Dy mg)(K4:Fnd P w K mg base 1 "is_saying" ["thing","names"] (Hf K)):FnOk P w K mg base CX0 2 f fd ["tale"] (Ch K):=by
 refine F.ok Cf (λvs H Q E h=>?_) (λcdv A outer s H vs Q E hr h=>?_)
 . obtain⟨v,ns,es,n,w,W,rfl,_⟩:=h;rfl
 obtain⟨v,ns,es,n,w,W,rfl,hI,hD,hn,hes,k⟩:=h;have hu:=Bh hr;have hq:=Bg hr;obtain⟨va,xs,rfl,hS,hX⟩:=hI.tup;obtain⟨m,rfl⟩:∃ m,n=m+1:=⟨n-1,by have:=hD.dp;simp only[PyData.depth] at this;omega⟩;have hE:=hD.els;obtain⟨d0,d1,x0,x1,e0,rfl,i0,i1⟩:=aa4 hX (IsL.length hX).symm
 cases e0;obtain⟨u0,k0⟩:=hE.all (nmD ns) (by simp);obtain⟨u1,k1⟩:=hE.all (.tuple es) (by simp);obtain⟨m',rfl⟩:∃ m',m=m'+1:=⟨m-1,by have:=k1.dp;simp only[PyData.depth] at this;omega⟩;have hE1:=k1.els;obtain⟨ea,ys,rfl,a1,hY⟩:=i1.tup;have hyl:=IsL.length hY
 with_reducible refine⟨_,(A2 (E4 A18 ⋯ (Xg (K:=K) ⋯ T.b_enumerate (A0 (A9 (A4 (K:=K) hu) (pv 0) A3 (by ac_rfl)) A1)) (Lc (K:=K) (n:=2) ⋯ (Ce (Ae (i:=1) Cf.nd ⋯ (by eq_refl)) (Ce (Ae (i:=2) Cf.nd ⋯ (by eq_refl)) Jw)))
  (A5 (Av (Bj (B8 (An K4 (hr.mono ∅) ⋯ (A0 (pv 2) (A0 (A9 (A4 (K:=K) hu) (pv 0) A3 (by ac_rfl)) A1))))) (A5 (Aa (pv 1))) Ad)))
  (A5 (Aa Fd))),?_⟩
 symm;refine Au hS (show atI _ 1=some (.ref ea) from rfl) ?_;symm;refine Ud a1 (λi σ H1=>∃ x1 x2,σ=[some (.ref va),x1,x2]/\Same H H1/\∀ e∈es.take i,ah4 ns e) ⟨_,_,rfl,.refl H,λe he=>by cases he⟩ (λi σ' H' Y=>?_) (λi x σ' H' H2 hx Y e2=>?_) (fun σ' H1 Y=>?_)
 . obtain⟨_,_,_,O,_⟩:=Y;exact O.seqT a1
 . obtain⟨x1,x2,rfl,O,Z⟩:=Y;have U:=O.trans e2;obtain⟨De,a0,hIx⟩:=IsL.get (IsL.mono U _ _ hY) hx;have a2:=A05 a0;obtain⟨ue,ke⟩:=hE1.all De a2;symm;refine Au (U.seqT hS) (show atI _ 0=some x0 from rfl) ?_;symm;refine⟨x,x0,De,m',ue,W,ns,_,_,W,rfl,hIx,ke,by omega,Is.mono U _ _ i0,k0,λb H3 e3 hb=>?_⟩
   cases b with
   |true=>
     symm;refine⟨_,_,rfl,U.trans e3,λe he=>?_⟩;rw[A0U,a0] at he;rcases A0O.mp he with h|h
     . exact Z e h
     have:e=De:=by simpa using h
     rw[this];exact hb.mp rfl
   |false=>symm;exact k _ H3 (U.trans e3) (.inr ⟨i,rfl,λh=>by have:=hb.mpr (h De a2);cases this⟩)
 obtain⟨x1,x2,rfl,O,Z⟩:=Y;rw[<- hyl,A14] at Z;symm;exact k _ H1 O (.inl ⟨rfl,Z⟩)
def Lj (K:PySem.W.Frag):Sp:=λvs H Q _=>∃ v D n w W,vs=[v]/\Is K H D v/\Dk n w W D/\n<=60/\w<=1000000/\W<=1000/\∀ b H',Same H H'->(b=true↔TaD D)->Q (.bl b) H'
theorem W3 (F:Fu K "is_tale" N4 f fd)(T:Dy mg)(F3:Fnd P w K mg base 4 "is_tale_frame" ["thing"] (Ec K))(Cs:Fnd P w K mg base 2 "first_wrong_saying" ["tale"] (Ch K)):FnOk P w K mg base CX0 5 f fd ["thing"] (Lj K):=by
 refine F.ok W7 (λvs H Q E h=>?_) (λcdv A outer s H vs Q E O h=>?_)
 . obtain⟨v,D,n,w,W,rfl,_⟩:=h;rfl
 obtain⟨v,D,n,w,W,rfl,hI,Z,hn,hw,hW,k⟩:=h;have hu:=Bh O;have hq:=Bg O
 with_reducible refine⟨_,(A5 (Aa (Cm (An F3 (O.mono ∅) ⋯ (A0 (pv 0) A1)) (D9 (At Zc (An Cs (O.mono ∅) ⋯ (A0 (pv 0) A1)) Fd (Ac _)))))),?_⟩
 symm;refine⟨v,D,n,w,W,rfl,hI,Z,hw,hW,λb H1 U hb=>?_⟩
 cases b with
 |false=>symm;exact k false H1 U ⟨λh=>(by cases h),λ⟨ns,es,e,h1,h2,_⟩=>hb.mpr ⟨ns,es,e,h1,h2⟩⟩
 |true=>
   obtain⟨ns,es,rfl,hns,a0⟩:=hb.mp rfl;symm;refine⟨v,ns,es,n,w,W,rfl,Is.mono U _ _ hI,Z,hn,a0,λr H2 Y O=>?_⟩;rcases O with ⟨rfl,hall⟩|⟨i,rfl,hno⟩
   . symm;exact k _ H2 (U.trans Y) ⟨λ_=>⟨ns,es,rfl,hns,a0,hall⟩,λ_=>rfl⟩
   symm;refine k _ H2 (U.trans Y) ⟨λh=>(by cases h),λ⟨ns',es',e,_,_,h⟩=>?_⟩;have e:nmD ns=nmD ns'/\es=es':=by simpa using e
   rw[<- e.2,<- Yj e.1] at h;exact absurd h hno
def Dx (K:W.Frag):Sp:=λvs H Q _=>∃ v ns ps,vs=[v]/\Is K H (hfD ns ps) v/\aj5 ns ps/\∀ r as H',H r=none->(∀ a∈as,H a=none)->Same H H'->Tab H' r ns as (Way ps)->Q (.ref r) H'
theorem O5 (F:Fu K "behind_each" G9 f fd)(T:Dy mg):FnOk P w K mg base CX0 1 f fd ["half"] (Dx K):=by
 refine F.ok Cc (λvs H Q E h=>?_) (λcdv A outer s H vs Q E hr h=>?_)
 . obtain⟨v,ns,ps,rfl,_⟩:=h;rfl
 obtain⟨v,ns,ps,rfl,hI,hW,k⟩:=h;have hu:=Bh hr;have hq:=Bg hr;have hn:=hW.nd;have hfew:=hW.few
 with_reducible refine⟨_,(A2 (Ai (i:=1) Cc.nd ⋯ (by eq_refl) (A9 (A4 (K:=K) hu) (pv 0) A3 (by ac_rfl)))
  (A2 (Ai (i:=2) Cc.nd ⋯ (by eq_refl) (Bd (Iq (K:=K) hr.hd) ⋯ T.b_dict PyProof.Rows.Boot.«dict» (A0 (As ["name"] [] [] ⋯ ⋯ ⋯ (Ao (K:=K) hu (pv 1)) (λ_ _ _ _=>(Ae (i:=0) (by with_unfolding_all (show(["name"]:List Str).Nodup;decide +kernel)) ⋯ (by eq_refl))) (Ap ∅) (λ_ _ _ _=>B2) (λ_ _ _ _=>(B0 (A0 (pv 0) (A0 a50 A1))))) A1)))
  (A2 (E4 A18 ⋯ (Ao (K:=K) hu (A9 (A4 (K:=K) hu) (pv 0) A3 (by ac_rfl))) (Ae (i:=3) Cc.nd ⋯ (by eq_refl))
  (A5 (Lh hu (A9 (A4 (K:=K) hu) (pv 2) (A9 (A4 (K:=K) hu) (pv 3) A3 (by ac_rfl)) (by ac_rfl)) (A9 (A4 (K:=K) hu) (pv 3) A3 (by ac_rfl)) E6 ⋯)))
  (A2 (E4 A18 ⋯ (Ao (K:=K) hu (pv 1)) (Ae (i:=4) Cc.nd ⋯ (by eq_refl))
  (A5 (E4 A18 ⋯ (Ao (K:=K) hu (pv 1)) (Ae (i:=5) Cc.nd ⋯ (by eq_refl))
  (A5 (Av (A7 (D3 (K:=K) hq) (pv 4) (A9 (A4 (K:=K) hu) (pv 2) (pv 5) (by ac_rfl)) ⋯) (A5 (Do (Ig (K:=K) PySem.F.plainAttrs_dict PySem.F.slot_dict_update PySem.F.type_dict_update (mm Vz) (A9 (A4 (K:=K) hu) (pv 2) (pv 5) (by ac_rfl)) (A0 (A9 (A4 (K:=K) hu) (pv 2) (pv 4) (by ac_rfl)) A1)))) Ad)))))
  (A5 (Aa (pv 2))))))),?_⟩
 symm;refine Hx hI λnv hN=>?_;symm;obtain⟨na,rfl,hS⟩:=hN.nm;refine Ix hS ?_;refine Fq (By (xs:=ns.map V.str)) (λp i acc H1=>Same H H1/\∃ as:List Addr,as.length=i/\as.Nodup/\(∀ a∈as,H1 a=some (.dK [])/\H a=none)/\PrsK K H1 (Eb (ns.take i) as) acc) (λp H' hp e h=>⟨e,[],rfl,by simp,λ_ h=>(by cases h),by rfl⟩) (λp i acc H1 O=>O.1.seqT hS) (λp i x acc H1 hp hx hi hl ha O=>?_) λp acc H1 hp ha hl O=>?_
 . obtain ⟨e1,as,a8,aJ,a3,a5⟩:=O;rw[A06] at hx
   cases hz:ns[i]? with
   |none=>rw[hz] at hx;cases hx
   |some z=>
     rw[hz] at hx
     cases hx;have aL:i<ns.length:=(A03.mp hz).1;symm;refine ao8 λb H2 aK e2 h2=>?_;symm;refine B3 (Ak (by simp)) λt H3 ht3 e3 h3=>?_;have aO:H3 p=some (.lst acc):=e3 _ _ (e2 _ _ ha);refine J3 (by rw[A01];omega) hi hl aO λZ e4 h4=>?_;have hbp:b≠p:=Ne.symm (ne_of_none ha aK);refine⟨by walk_at "sm",as++[b],by simp[a8],?_,λa a0=>?_,?_⟩
     . rw[A33];refine⟨aJ,by simp,λa ha1 c hc e=>?_⟩;have:c=b:=by simpa using hc
       subst this;subst e;have:=(a3 _ ha1).1;rw[aK] at this
       cases this
     . rcases A0O.mp a0 with a0|a0
       . obtain⟨q1,q2⟩:=a3 a a0;exact⟨e4 _ _ (ne_of q1 ha (by intro z;cases z)) (e3 _ _ (e2 _ _ q1)),q2⟩
       have:a=b:=by simpa using a0
       subst this;exact⟨e4 _ _ hbp (e3 _ _ h2),e1.free aK⟩
     have ht:ns.take (i+1)=ns.take i++[z]:=by rw[A0U,hz];rfl
     have hlen:(ns.take i).length=as.length:=by rw[A0S,a8];omega
     rw[ht,Pg hlen];have a6:=e4.fzL aO;exact PrsK.snoc (kv:=(Sum.inr z,V.ref b)) (a6.seq (SqT.of h3)) (PrsK.fz ((e2.fz.trans e3.fz).trans a6) a5)
 obtain⟨e1,as,a8,aJ,a3,a5⟩:=O;rw[A01] at a8;rw[A01,A14] at a5;symm;refine U4 ha a5 (by unfold Eb;rw[List.length_map,List.length_zip];omega) λr H2 aW e2 h2=>?_;rw[He _ _ (Kk hn) (λ_ _ _ h=>by cases h),A30] at h2;have hr0:H r=none:=e1.free aW
 have hra:r∉as:=λhm=>by
  have:=(a3 r hm).1;rw[aW] at this
  cases this
 have hT0:Tab H2 r ns as (λz y=>(z,y)∈ps.take 0):=⟨a8,aJ,hra,h2,λi z a hz a0=>⟨[],e2 _ _ (a3 a (List.mem_of_getElem? a0)).1,by simp,λ_ h=>(by cases h),λy=>by simp⟩⟩;symm;refine Xj (hI.hf_fz (by walk_at "fz")) λpv hP2=>?_
 refine Z6 hP2 (λi σ H3=>∃ x3,σ=[some v,some (.ref na),some (.ref r),x3,none,none]/\Same H H3/\Fz H2 H3/\Tab H3 r ns as (λz y=>(z,y)∈ps.take i))
  ⟨none,rfl,by walk_at "sm",.refl _,hT0⟩ (λi σ' H' O=>O.choose_spec.2.2.1) (λi pr w σ' H3 a5 aP O=>?_) (fun σ' H3 O=>?_)
 . obtain⟨x3,rfl,e3,aN,hT⟩:=O;have aV:=hW.mem pr (A05 a5);obtain⟨j,a,hj,aG⟩:=hT.at aV.1;obtain⟨ks,a2,aB,aC,aH⟩:=hT.row j _ a hj aG;have hkl:ks.length<=ns.length:=Be aB aC;symm;refine Yd aP ?_;refine Vn hT hn hj aG ?_;symm;refine Ys aP ?_;refine Mx a2 (by rw[Gc];omega) λZ e4 h4=>?_;rw[Ww] at h4;symm;have ha0:H a=none:=(a3 a (A05 aG)).2;refine⟨_,rfl,by walk_at "sm",aN.trans (e4.fzD a2),hT.put e4 hn hj aG h4 (Oi aB) (λy hy=>?_) (λy=>?_) (λz hz hzx y=>?_)⟩
   . rcases mem_addK.mp hy with hy|rfl
     . exact aC y hy
     exact aV.2
   . rw[mem_addK,aH,A0U,a5,A0O];constructor
     . rintro(h|rfl)
       . exact .inl h
       exact .inr (by simp)
     rintro(h|h)
     . exact .inl h
     right
     have:(pr.1,y)=pr:=by simpa using h
     rw[<- this]
   rw[A0U,a5,A0O];constructor
   . exact .inl
   rintro(h|h)
   . exact h
   have:(z,y)=pr:=by simpa using h
   exact absurd (by rw[<- this]) hzx
 obtain⟨x3,rfl,e3,aN,hT⟩:=O;rw[A14] at hT;have hW0:War ns ps [] (λz y=>(z,y)∈ps):=⟨λz y h=>.one h,λz y h=>h,λm hm=>by cases hm⟩;symm;have aQ:Is K H3 (nmD ns) (.ref na):=hN.nm_fz e3.fz
 refine Zo aQ (λi σ Z=>∃ x4 x5 R,σ=[some v,some (.ref na),some (.ref r),x3,x4,x5]/\Same H Z/\Fz H3 Z/\Tab Z r ns as R/\War ns ps (ns.take i) R)
  ⟨_,_,_,rfl,e3,.refl _,hT,hW0⟩ (λi σ' H' O=>?_) (λi Y σ' Z aS O=>?_) (fun σ' Z O=>?_)
 . obtain⟨_,_,_,_,_,fz,_⟩:=O;exact fz
 . obtain⟨x4,x5,R,rfl,e4,a6,aF,hR⟩:=O;obtain⟨jm,am,aA,a9⟩:=aF.at (A05 aS);have hN4:Is K Z (nmD ns) (.ref na):=aQ.nm_fz a6;symm
   refine Zo hN4 (λj σ H5=>∃ x5,σ=[some v,some (.ref na),some (.ref r),x3,some (.str Y),x5]/\Same H H5/\Fz Z H5/\Tab H5 r ns as (aa2 R Y (ns.take j)))
    ⟨_,rfl,e4,.refl _,aF.congr λz _ y=>⟨.inl,λh=>h.elim (λq=>q) λq=>absurd q.1 (by simp)⟩⟩ (λi σ' H' O=>O.choose_spec.2.2.1) (λj nm σ' H5 aU O=>?_) (fun σ' H5 O=>?_)
   . obtain⟨x5',rfl,e5,a7,U⟩:=O;obtain⟨jn,an,a4,a1⟩:=U.at (A05 aU);obtain⟨ks,a2,aB,aC,aH⟩:=U.row jn nm an a4 a1;obtain⟨ms,hm1,hm2,aR,hm4⟩:=U.row jm Y am aA a9;have hkl:ks.length<=ns.length:=Be aB aC;have hml:ms.length<=ns.length:=Be hm2 aR;have aI:ns.take (j+1)=ns.take j++[nm]:=by rw[A0U,aU];rfl
     have aL:Y∈ks↔R nm Y:=(aH Y).trans ⟨λh=>h.elim (λq=>q) λq=>q.2.1,.inl⟩;have hmid2:∀ y,y∈ms↔R Y y:=λy=>(hm4 y).trans ⟨λh=>h.elim (λq=>q) λq=>q.2.2,.inl⟩
     have aM:∀ z∈ns,z≠nm->∀ y,aa2 R Y (ns.take j) z y↔aa2 R Y (ns.take (j+1)) z y:=λz _ hz y=>by unfold aa2;rw[aI,A0O,A0Q];simp[hz]
     symm;refine Vn U hn a4 a1 ?_;refine ak5 a2 ?_;symm;refine Gw (λhc=>?_) (λhc=>?_)
     . have aE:=aL.mp hc
       by_cases aT:nm=Y
       . subst aT
         have hji:jn=jm:=by obtain⟨p1,p2⟩:=A03.mp a4;obtain⟨q1,q2⟩:=A03.mp aA;exact(A1Z hn).mp (p2.trans q2.symm)
         subst hji;rw[a1] at a9
         cases a9;symm;refine Vn U hn a4 a1 ?_;refine ax6 a2 ?_;symm;refine Vn U hn a4 a1 ?_;symm;refine aw2 a2 ?_;symm;refine⟨_,rfl,e5,a7,U.congr λz hz y=>?_⟩
         by_cases aD:z=nm
         . subst aD;unfold aa2;constructor
           . exact λh=>.inl (h.elim (λq=>q) λq=>q.2.2)
           exact λh=>.inl (h.elim (λq=>q) λq=>q.2.2)
         exact aM z hz aD y
       have hane:an≠am:=λq=>by subst q;obtain⟨p1,p2⟩:=A03.mp a1;obtain⟨q1,q2⟩:=A03.mp a9;have:=(A1Z U.nd).mp (p2.trans q2.symm);subst this;rw[a4] at aA;exact aT (A10 aA)
       symm;refine Vn U hn a4 a1 ?_;refine ax6 a2 ?_;symm;refine Vn U hn aA a9 ?_;symm;refine au1 a2 hm1 hane (by omega) λH6 e6 h6=>?_;symm;have ha0:H an=none:=(a3 an (A05 a1)).2;refine⟨_,rfl,by walk_at "sm",a7.trans (e6.fzD a2),U.put e6 hn a4 a1 h6 (E8 aB) (λy hy=>?_) (λy=>?_) aM⟩
       . rcases mem_addAll.mp hy with hy|hy
         . exact aC y hy
         exact aR y hy
       rw[mem_addAll,aH,hmid2];unfold aa2;rw[aI,A0O,A0Q];constructor
       . rintro((h|h)|h)
         . exact .inl h
         . exact .inr ⟨.inl h.1,h.2⟩
         exact .inr ⟨.inr rfl,aE,h⟩
       rintro(h|h)
       . exact .inl (.inl h)
       exact .inr h.2.2
     have aE:¬ R nm Y:=λq=>hc (aL.mpr q);symm;refine⟨_,rfl,e5,a7,U.congr λz hz y=>?_⟩
     by_cases aD:z=nm
     . subst aD;unfold aa2;constructor
       . exact λh=>.inl (h.elim (λq=>q) λq=>absurd q.2.1 aE)
       exact λh=>.inl (h.elim (λq=>q) λq=>absurd q.2.1 aE)
     exact aM z hz aD y
   obtain⟨x5',rfl,e5,a7,U⟩:=O;rw[A14] at U;refine⟨_,_,_,rfl,e5,a6.trans a7,U.congr (R':=λz y=>R z y\/(R z Y/\R Y y)) λz hz y=>?_,?_⟩
   . unfold aa2;simp[hz]
   have aI:ns.take (i+1)=ns.take i++[Y]:=by rw[A0U,aS];rfl
   rw[aI];exact hR.step
 obtain⟨x4,x5,R,rfl,e4,a6,aF,hR⟩:=O;rw[A14] at hR;symm;exact k r as Z hr0 (λa a0=>(a3 a a0).2) e4 (aF.congr λz _ y=>hR.done hW.mem z y)
theorem Bt:∀ {ns:List Str} {as:List Addr},as.length=ns.length->(Eb ns as).map (λkv=>kV kv.1)=ns.map V.str
 | [],[],_=>rfl
 | [],_ :: _,h=>by simp at h
 |_ :: _,[],h=>by simp at h
 |n :: ns,a :: as,h=>by have F:=Bt (ns:=ns) (as:=as) (by simpa using h);unfold Eb at F ⊢;rw[List.zip_cons_cons,A0P,A0P,F];rfl
def aH2:PyData->Bool
 |.int _=>true
 |_=>false
def aH4:PyData->Bool
 |.bool _=>true
 |_=>false
theorem ab5 (h:Is K H D v)(k:Q (.bl (aH2 D||aH4 D)) H):Ge K [v,.ty "int"] H Q:=by
 cases D with
 |none=>simp only[Is] at h;subst h;exact F7 .non (b:=false) (by rfl) k
 |bool b=>simp only[Is] at h;subst h;exact F7 (.bl b) (b:=true) (by rfl) k
 |int b=>simp only[Is] at h;subst h;exact F7 (.int b) (b:=true) (by rfl) k
 |str b=>simp only[Is] at h;subst h;exact F7 (.str b) (b:=false) (by rfl) k
 |list ds=>simp only[Is] at h;obtain⟨a,xs,rfl,h1,_⟩:=h;exact V2 h1 (b:=false) (by rfl) k
 |tuple ds=>simp only[Is] at h;obtain⟨a,xs,rfl,h1,_⟩:=h;exact Vf h1 (b:=false) (by rfl) k
 |dict _=>simp only[Is] at h
def Ze (h:Is K H D v)(k:Q (.bl (aH4 D)) H):Ge K [v,.ty "bool"] H Q:=by
 cases D with
 |none=>simp only[Is] at h;subst h;exact F7 .non (b:=false) (by rfl) k
 |bool b=>simp only[Is] at h;subst h;exact F7 (.bl b) (b:=true) (by rfl) k
 |int b=>simp only[Is] at h;subst h;exact F7 (.int b) (b:=false) (by rfl) k
 |str b=>simp only[Is] at h;subst h;exact F7 (.str b) (b:=false) (by rfl) k
 |list ds=>simp only[Is] at h;obtain⟨a,xs,rfl,h1,_⟩:=h;exact V2 h1 (b:=false) (by rfl) k
 |tuple ds=>simp only[Is] at h;obtain⟨a,xs,rfl,h1,_⟩:=h;exact Vf h1 (b:=false) (by rfl) k
 |dict _=>simp only[Is] at h
def aD4 (n:Int):PyData->Bool
 |.tuple ds=>decide ((ds.length:Int)=n)
 |_=>false
def aA9:PyData->Bool
 |.tuple [_,_,.int n]=>decide (0<=n)
 |_=>false
def Gp (K:W.Frag):Sp:=λvs H Q _=>∃ v D,vs=[v]/\Is K H D v/\Q (.bl (aH2 D)) H
def Fi (K:W.Frag):Sp:=λvs H Q _=>∃ v D n,vs=[v,.int n]/\Is K H D v/\Q (.bl (aD4 n D)) H
def F1 (K:W.Frag):Sp:=λvs H Q _=>∃ v D,vs=[v]/\Is K H D v/\Q (.bl (aA9 D)) H
theorem Tn (F:Fu K "is_whole" Lo f fd)(T:Dy mg):FnOk P w K mg base CX0 1 f fd ["thing"] (Gp K):=by
 refine F.ok Tu (λvs H Q E h=>?_) (λY A outer s H vs Q E U h=>?_)
 . obtain⟨v,D,rfl,_⟩:=h;rfl
 obtain⟨v,D,rfl,O,k⟩:=h;have hu:=Bh U;have Z:=Bg U
 with_reducible refine⟨_,(A5 (Aa (Cm (A6 (Al (K:=K)) ⋯ T.b_isinstance PyProof.Rows.Boot.«isinstance» (A0 (pv 0) (A0 (B9 (v:=.ty "int") ⋯ T.b_int PyProof.Rows.Boot.«int» ⋯) A1))) (D9 (ac0 (A6 (Al (K:=K)) ⋯ T.b_isinstance PyProof.Rows.Boot.«isinstance» (A0 (pv 0) (A0 (B9 (v:=.ty "bool") ⋯ T.b_bool PyProof.Rows.Boot.«bool» ⋯) A1)))))))),?_⟩
 symm;refine ab5 O ⟨_,rfl,?_⟩
 cases D with
 |int n=>rw[A0K (by rfl)];symm;refine Ze O ?_;symm;exact k
 |bool n=>rw[A0K (by rfl)];symm;refine Ze O ?_;symm;exact k
 |_=>exact k
theorem Nv (F:Fu K "is_tuple_of" Gk f fd)(T:Dy mg):FnOk P w K mg base CX0 1 f fd ["thing","size"] (Fi K):=by
 refine F.ok O1 (λvs H Q E h=>?_) (λZ A outer s H vs Q E U h=>?_)
 . obtain⟨v,D,n,rfl,_⟩:=h;rfl
 obtain⟨v,D,n,rfl,O,k⟩:=h;have hu:=Bh U;have Y:=Bg U
 with_reducible refine⟨_,(A5 (Aa (Cm (A6 (Al (K:=K)) ⋯ T.b_isinstance PyProof.Rows.Boot.«isinstance» (A0 (pv 0) (A0 (B9 (v:=.ty "tuple") ⋯ T.b_tuple PyProof.Rows.Boot.«tuple» ⋯) A1))) (D9 (At (Aq (K:=K) Y) (A6 (Ab (K:=K)) ⋯ T.b_len PyProof.Rows.Boot.«len» (A0 (pv 0) A1)) (pv 1) (Ac _)))))),?_⟩
 symm;refine Ep O ⟨_,rfl,?_⟩
 cases D with
 |tuple ds=>rw[A0K (by rfl)];symm;refine Oq O ?_;symm;rw[show decide (V.int (ds.length:Int)=V.int n)=decide ((ds.length:Int)=n) by rw[decide_eq_decide];exact⟨V.int.inj,congrArg V.int⟩];exact k
 |_=>exact k
theorem Nb (F:Fu K "is_row_frame" Ff f fd)(T:Dy mg)(Du:Fnd P w K mg base 1 "is_whole" ["thing"] (Gp K))(Gn:Fnd P w K mg base 1 "is_tuple_of" ["thing","size"] (Fi K)):FnOk P w K mg base CX0 2 f fd ["thing"] (F1 K):=by
 refine F.ok Mt (λvs H Q E h=>?_) (λcdv A outer s H vs Q E U h=>?_)
 . obtain⟨v,D,rfl,_⟩:=h;rfl
 obtain⟨v,D,rfl,Z,k⟩:=h;have hu:=Bh U;have hq:=Bg U
 with_reducible refine⟨_,(A5 (Aa (Cm (An Gn (U.mono ∅) ⋯ (A0 (pv 0) (A0 A3 A1))) (Cm (An Du (U.mono ∅) ⋯ (A0 (A9 (A4 (K:=K) hu) (pv 0) A3 (by ac_rfl)) A1)) (D9 (At an1 (A9 (A4 (K:=K) hu) (pv 0) A3 (by ac_rfl)) A3 (Ac _))))))),?_⟩
 symm;refine⟨v,D,3,rfl,Z,?_⟩
 cases O:aD4 3 D with
 |false=>
   symm;rw[show false=aA9 D by unfold aA9;split<;>first | rfl | simp[aD4] at O]
   exact k
 |true=>
   obtain⟨a,b,c,rfl⟩:∃ a b c,D = .tuple [a,b,c]:=by
    cases D with
    |tuple ds=>
      have O:ds.length=3:=by have:=A13 O;omega
      match ds,O with
      | [a,b,c],_=>exact⟨a,b,c,rfl⟩
    |_=>cases O
   obtain⟨ta,xs,rfl,hS,hL⟩:=Is.tup Z;have hlen:=IsL.length hL;obtain⟨y,hy,Y⟩:=IsL.at hL (show [a,b,c][2]? = some c from rfl);symm;refine Au hS (show atI xs ((2:Nat):Int)=_ from Ag hy) ?_;symm;refine⟨y,c,rfl,Y,?_⟩
   cases c with
   |int n=>simp only[Is] at Y;subst Y;symm;rw[A0K (by rfl)];symm;refine Au hS (show atI xs ((2:Nat):Int)=_ from Ag hy) ?_;symm;exact k
   |_=>walk_at "rd";exact k
def K5 (K:PySem.W.Frag):Sp:=λvs H Q _=>∃ v D n w W,vs=[v]/\Is K H D v/\Dk n w W D/\n<=60/\w<=1000000/\W<=1000 /\
 (¬ TaD D->∀ H',Same H H'->Q .non H')/\(TaD D->∃ ns ps,D=hfD ns ps/\HalfW ns ps/\∀ r as H',H r=none->(∀ a∈as,H a=none)->Same H H'->TabR H' r ns as (Way ps)->Q (.ref r) H')
theorem Tb (F:Fu K "reach_of" Kx f fd)(T:Dy mg)(C6:Fnd P w K mg base 1 "behind_each" ["half"] (Dx K))(Mh:Fnd P w K mg base 5 "is_tale" ["thing"] (Lj K)):FnOk P w K mg base CX0 6 f fd ["thing"] (K5 K):=by
 refine F.ok Mr (λvs H Q E h=>?_) (λcdv A outer s H vs Q E O h=>?_)
 . obtain⟨v,D,n,w,W,rfl,_⟩:=h;rfl
 obtain⟨v,D,n,w,W,rfl,hI,hD,hn,hw,Z,k1,k2⟩:=h;have hu:=Bh O;have hq:=Bg O
 with_reducible refine⟨_,(A2 (Av (Bj (B8 (An Mh (O.mono ∅) ⋯ (A0 (pv 0) A1)))) (A5 (Aa Fd)) Ad)
  (A2 (Ai (i:=1) Mr.nd ⋯ (by with_unfolding_all exact A35 rfl) (An C6 (O.mono ∅) ⋯ (A0 (pv 0) A1)))
  (A2 (Av (B8 (A6 (My (K:=K) ⋯) ⋯ T.b_any PyProof.Rows.Boot.«any» (A0 (As ["name"] ["reach"] [1] ⋯ ⋯ ⋯ (Ao (K:=K) hu (pv 1)) (λ_ _ _ _=>(Ae (i:=0) (by with_unfolding_all (show(["name","reach"]:List Str).Nodup;decide +kernel)) ⋯ (by eq_refl))) (Ap ∅) (λ_ _ _ _=>B2) (λ_ _ _ _=>(At (D3 (K:=K) hq) (pv 0) (A9 (A4 (K:=K) hu) (pv 1) (pv 0) (by ac_rfl)) ⋯))) A1))) (A5 (Aa Fd)) Ad)
  (A5 (Aa (pv 1)))))),?_⟩
 symm;refine⟨v,D,n,w,W,rfl,hI,hD,hn,hw,Z,λb H1 Y hb=>?_⟩
 cases b with
 |false=>symm;exact k1 (λh=>by have:=hb.mpr h;cases this) H1 Y
 |true=>
   obtain⟨ns,ps,rfl,hH,k⟩:=k2 (hb.mp rfl);symm;refine⟨v,ns,ps,rfl,hI.hf_fz Y.fz,hH,λr as H2 hr2 has2 e2 hT=>?_⟩;have U:=hT.toR;have Z:=hH;symm;refine Q2 (as:=[r]) U.top (A0Q.mpr rfl) λo H3 k3 h3=>?_;have O:H r=none:=Y.free hr2;have s3:Same H H3:=λb o' a1=>k3.1 b o' (λz=>by rw[A0Q.mp z,O] at a1;cases a1) ((Y.trans e2) _ _ a1);refine Kf (K:=K) G0 ns (by rw[Bt U.len,A01]) (λ_=>false) (by rw[Bt U.len,A01];have:=Z.few;omega) (λH' e=>e _ _ h3) (λi z xv H4 R hz hx e4 hR=>?_) (λq H4 hq' e4 h4=>?_)
   . rw[Bt U.len,A06,hz] at hx
     cases hx;have a0:=(U.keep k3).same e4;obtain⟨j,a,hj,ha⟩:=a0.at (A05 hz);obtain⟨ks,g1,g2,g3,g4⟩:=a0.row j z a hj ha;symm;refine Rc a0 Z.nd hj ha ?_;symm;refine P8 g1 ?_;rw[A0H λh=>by have:=wayB_iff.mpr ((g4 z).mp h);rw[X7 Z z] at this;cases this];exact hR H4 (.refl _)
   symm;refine an8 h4 ?_;rw[show(ns.map λ_=>false).any id=false by rw[A32];intro b hb;obtain⟨_,_,rfl⟩:=A0A.mp hb;decide];symm;exact k r as H4 O (λa ha=>Y.free (has2 a ha)) (s3.trans e4) ((U.keep k3).same e4)
def Ij (K:W.Frag):Sp:=λvs H Q _=>∃ r ns ps as,vs=[.ref r]/\TabR H r ns as (Way ps)/\HalfW ns ps/\∀ b H',Keep [r] H H'->(b=true↔unP ns ps=[])->Q (.bl b) H'
def ak2 {ns:List Str}{ps:List (Str×Str)}(hn:ns.Nodup)(h2:ks.Nodup)(O:∀ y∈ks,y∈ns)(F:∀ y,y∈ks↔Way ps z y):ks.length=szW ns ps z:=by refine Vk h2 (hn.sublist A1P) λy=>?_;rw[A0V,wayB_iff];exact⟨λh=>⟨O y h,(F y).mp h⟩,λh=>(F y).mpr h.2⟩
theorem Uw {α:Type}(f:α->Nat):∀ l:List α,(l.map λx=>((f x:Nat):Int)).sum=(((l.map f).sum:Nat):Int)
 | []=>rfl
 |a :: l=>by rw[A0P,A26,Uw f l,A0P,A26,Int.natCast_add]
theorem X0:∀ {ns:List Str} {as:List Addr},as.length=ns.length->(Eb ns as).map (λkv=>kv.1)=ns.map λx=>(Sum.inr x:Key)
 | [],[],_=>rfl
 | [],_ :: _,h=>by simp at h
 |_ :: _,[],h=>by simp at h
 |n :: ns,a :: as,h=>by have F:=X0 (ns:=ns) (as:=as) (by simpa using h);unfold Eb at F ⊢;rw[List.zip_cons_cons,A0P,A0P,F];rfl
theorem Rk (F:Fu K "is_row_of" Ju f fd)(T:Dy mg):FnOk P w K mg base CX0 1 f fd ["reach"] (Ij K):=by
 refine F.ok Qr (λvs H Q E h=>?_) (λcdv A outer s H vs Q E hr h=>?_)
 . obtain⟨r,ns,ps,as,rfl,_⟩:=h;rfl
 obtain⟨r,ns,ps,as,rfl,O,hW,k⟩:=h;have hu:=Bh hr;have hq:=Bg hr;have hfew:=hW.few;have hn:=hW.nd;have hrl:(Eb ns as).length=ns.length:=by unfold Eb;rw[List.length_map,List.length_zip,O.len,Nat.min_self]
 with_reducible refine⟨_,(A5 (Aa (At (Aq (K:=K) hq) (B1 Cw A3 (A6 (Mi (K:=K) ⋯) ⋯ T.b_sum PyProof.Rows.Boot.«sum» (A0 (As ["name"] ["reach"] [0] ⋯ ⋯ ⋯ (Ao (K:=K) hu (pv 0)) (λ_ _ _ _=>(Ae (i:=0) (by with_unfolding_all (show(["name","reach"]:List Str).Nodup;decide +kernel)) ⋯ (by eq_refl))) (Ap ∅) (λ_ _ _ _=>B2) (λ_ _ _ _=>(A6 Ft ⋯ T.b_len PyProof.Rows.Boot.«len» (A0 (A9 (A4 (K:=K) hu) (pv 1) (pv 0) (by ac_rfl)) A1)))) A1))) (B1 Cw (A6 Ft ⋯ T.b_len PyProof.Rows.Boot.«len» (A0 (pv 0) A1)) (B1 Np (A6 Ft ⋯ T.b_len PyProof.Rows.Boot.«len» (A0 (pv 0) A1)) A3)) (Ac _)))),?_⟩
 symm;refine Q2 (as:=[r]) O.top (A0Q.mpr rfl) λo H1 k1 h1=>?_;refine Fq G0 (λq i acc H2=>Same H1 H2/\acc=(ns.take i).map λx=>V.int ((szW ns ps x:Nat):Int)) (λq H' a1 e h=>⟨e,rfl⟩) (λq i acc H2 Y=>Y.1 _ _ h1) (λq i x acc H2 a1 hx hi hl a0 Y=>?_) (λq acc H2 a1 a0 hl Y=>?_)
 . obtain⟨Z,rfl⟩:=Y;rw[Bt O.len,A06] at hx;obtain⟨z,hz,rfl⟩:=A0Z.mp hx;have U:=(O.keep k1).same Z;obtain⟨j,a,hj,ha⟩:=U.at (A05 hz);obtain⟨ks,g1,g2,g3,g4⟩:=U.row j z a hj ha;symm;refine Rc U hn hj ha ?_;symm;refine R8 g1 ?_;rw[Gc,ak2 hn g2 g3 g4];refine J3 (by rw[A01];omega) hi hl a0 λH3 e3 h3=>⟨?_,?_⟩
   . walk_at "sm"
   rw[A0U,hz];simp
 obtain⟨Z,rfl⟩:=Y;rw[Bt O.len,A01,A14] at a0;have U:=(O.keep k1).same Z;symm;refine ap9 (ns:=ns.map λx=>((szW ns ps x:Nat):Int)) (.inl (SqL.of (by rw[a0,A1H];rfl))) (λn hn'=>?_) (by rw[A01];omega) ?_
 . obtain⟨x,hx,rfl⟩:=A0A.mp hn';have:szW ns ps x<=ns.length:=A1K _ _;omega
 symm;refine R8 U.top ?_;symm;refine R8 U.top ?_;rw[hrl];symm;refine k _ H2 (k1.trans (Z.keep _)) ?_;rw[A1M]
 have h1:=aA1 (ps:=ps) (λx=>X7 hW x) (λx y h=>by
  cases e:Ck ps y x with
  |false=>rfl
  |true=>exact absurd ((wayB_iff.mp h).trans (wayB_iff.mp e)) (hW.irr x)) ns
 have hsum:(2*(ns.map λx=>((szW ns ps x:Nat):Int)).sum:Int)+2*(((unP ns ps).length:Nat):Int)=(ns.length:Int)*((ns.length:Int)-1):=by
  rw[Uw];unfold szW
  cases hl0:ns.length with
  |zero=>rw[hl0] at h1;simp only[Nat.zero_mul] at h1;simp;omega
  |succ n=>
    rw[hl0,A5D] at h1;have h2:((2*(ns.map λx=>(ns.filter λy=>Ck ps x y).length).sum+2*(unP ns ps).length:Nat):Int)=(((n+1)*n:Nat):Int):=by rw[h1]
    push_cast at h2 ⊢
    rw[h2,Int.add_sub_cancel]
 rw[<- A1D];constructor
 . intro z;have:=V.int.inj z;omega
 intro z;rw[z] at hsum;exact congrArg V.int (by omega)
def Q4 (K:W.Frag):Sp:=λvs H Q _=>∃ v u ns ps ns' ps',vs=[v,u]/\Is K H (hfD ns ps) v/\HalfW ns ps/\Is K H (hfD ns' ps') u/\HalfW ns' ps'/\∀ b H',(b=true↔((∀ z,z∈ns↔z∈ns')/\∀ z∈ns,∀ y,Way ps z y↔Way ps' z y))->Same H H'->Q (.bl b) H'
theorem a37 (F:Fu K "alike" Sy f fd)(T:Dy mg)(U:Fnd P w K mg base 1 "behind_each" ["half"] (Dx K)):FnOk P w K mg base CX0 2 f fd ["one","other"] (Q4 K):=by
 refine F.ok a80 (λvs H Q E h=>?_) (λcdv A outer s H vs Q E O h=>?_)
 . obtain⟨v,u,ns,ps,ns',ps',rfl,_⟩:=h;rfl
 obtain⟨v,u,ns,ps,ns',ps',rfl,hI,hW,hI',a0,k⟩:=h;have hu:=Bh O;have hq:=Bg O
 with_reducible refine⟨_,(A5 (Aa (At (a66 hq) (An U (O.mono ∅) ⋯ (A0 (pv 0) A1)) (An U (O.mono ∅) ⋯ (A0 (pv 1) A1)) (Ac _)))),?_⟩
 symm;refine⟨v,ns,ps,rfl,hI,hW,λr as H1 hr1 ha1 Y hT=>?_⟩;symm;refine⟨u,ns',ps',rfl,hI'.hf_fz Y.fz,a0,λr' as' H2 hr2 ha2 Z hT'=>?_⟩;symm;exact⟨r,r',ns,ns',as,as',_,_,rfl,rfl,hT.same Z,hT',hW.nd,a0.nd,λb hb=>k b H2 hb (Y.trans Z)⟩
def spV:Sp:=λ_ _ _ _=>False
def Hh (K:W.Frag):Sp:=spV
def Ia (K:W.Frag):Sp:=spV
def Mn (K:W.Frag):Sp:=spV
def J4 (K:W.Frag):Sp:=spV
def Oh (K:W.Frag):Sp:=spV
def Lx (K:W.Frag):Sp:=spV
def Iz (K:W.Frag):Sp:=spV
def Gv (ns:List Str) (z:Str):List Str:=ns.filter λy=>!decide (y=z)
def aI2 (y:Str):PyData:=.tuple [.str y,.bool true]
theorem Yg {K:W.Frag}{H:Hp}:∀ {ks:List Str} {ys:List V},IsL K H (ks.map aI2) ys->PrsK K H (Em ks) ys
 | [],ys,h=>by simp only[List.map_nil,L2.IsL] at h;exact h
 |p :: qs,ys,h=>by simp only[List.map_cons,L2.IsL] at h;obtain⟨v,r,rfl,h1,h2⟩:=h;obtain⟨a,xs,rfl,Y,U⟩:=Is.tup (ds:=[.str p,.bool true]) h1;simp only[L2.IsL] at U;obtain⟨Z,_,rfl,F,v2,_,rfl,O,rfl⟩:=U;simp only[L2.Is] at F O;subst F;subst O;exact⟨a,r,rfl,Y,Yg h2⟩
def ay1 (h:ks.Nodup):((Em ks).map (·.1)).Nodup:=by unfold Em;rw[A1H];exact D7 h λx _ y _ e=>by simpa using e
def a68 {R:It->Hp->Prop}(h:Rd H a (.dK kvs))(ha:a∈as)(k:∀ o H',Keep as H H'->H' a=some (.frz o (.dK kvs))->((∃ o' u,H a=some (.frz o' u))->H'=H)->R (Itd a o kvs) H'):Fa K (.ref a) H R:=by
 rcases h with h|⟨o,h⟩
 . exact aw8 h λo=>k o _ (Keep.freeze ha h λ_ _ z=>by cases z) Aj λ⟨_,_,g⟩=>by rw[h] at g;cases g
 exact aj3 h (k o H (Keep.refl _ _) h λ_=>rfl)
def Ei (K:W.Frag):Sp:=λvs H Q _=>∃ r z ns as R,vs=[.ref r,.str z]/\TabR H r ns as R/\ns.Nodup/\ns.length<=100/\∀ F O H',H F=none->Keep [r] H H'->((∃ o u,H r=some (.frz o u))->Same H H')->Tab H' F (Gv ns z) O (λx y=>y∈Gv ns z/\R x y)->Q (.ref F) H'
theorem M1 (F:Fu K "reach_without" F2 f fd)(T:Dy mg):FnOk P w K mg base CX0 1 f fd ["reach","name"] (Ei K):=by
 refine F.ok Gz (λvs H Q E h=>?_) (λcdv A outer s H vs Q E hr h=>?_)
 . obtain⟨r,z,ns,as,R,rfl,_⟩:=h;rfl
 obtain⟨r,z,ns,as,R,rfl,hT,hn,h100,k⟩:=h;have hu:=Bh hr;have hq:=Bg hr;have hml:(Gv ns z).length<=100:=A0M (A1K _ _) h100;have a9:(Gv ns z).Nodup:=hn.sublist A1P;have hms:∀ y∈Gv ns z,y∈ns:=λy hy=>(A0V.mp hy).1;have htl:(Eb ns as).map (λkv=>kv.1)=ns.map λx=>(Sum.inr x:Key):=X0 hT.len
 with_reducible refine⟨_,(A2 (Ai (i:=2) Gz.nd ⋯ (by with_unfolding_all exact A35 rfl) (As ["other"] ["name"] [1] ⋯ ⋯ ⋯ (Ao (K:=K) hu (pv 0)) (λ_ _ _ _=>(Ae (i:=0) (by with_unfolding_all (show(["other","name"]:List Str).Nodup;decide +kernel)) ⋯ (by eq_refl))) (Ap ∅) (λ_ _ _ _=>(Bw (A7 (C8 (K:=K) hq) (pv 0) (pv 1) (Ac _)))) (λ_ _ _ _=>(pv 0))))
  (A5 (Aa (Bd (Iq (K:=K) hr.hd) ⋯ T.b_dict PyProof.Rows.Boot.«dict» (A0 (As ["one"] ["left","reach"] [2,0] ⋯ ⋯ ⋯ (Ao (K:=K) hu (pv 2)) (λ_ _ _ _=>(Ae (i:=0) (by with_unfolding_all (show(["one","left","reach"]:List Str).Nodup;decide +kernel)) ⋯ (by with_unfolding_all exact A35 rfl))) (Ap ∅) (λ_ _ _ _=>B2) (λ_ _ _ _=>(B0 (A0 (pv 0) (A0 (Bd (Iq (K:=K) hr.hd) ⋯ T.b_dict PyProof.Rows.Boot.«dict» (A0 (As ["other"] ["reach","one"] [2,0] ⋯ ⋯ ⋯ (Ao (K:=K) hu (pv 1)) (λ_ _ _ _=>(Ae (i:=0) (by with_unfolding_all (show(["other","reach","one"]:List Str).Nodup;decide +kernel)) ⋯ (by eq_refl))) (Ap ∅) (λ_ _ _ _=>(Bw (A7 (D3 (K:=K) hq) (pv 0) (A9 (A4 (K:=K) hu) (pv 1) (pv 2) (by ac_rfl)) ⋯))) (λ_ _ _ _=>(B0 (A0 (pv 0) (A0 E6 A1))))) A1)) A1))))) A1))))),?_⟩
 symm;refine a68 (as:=[r]) hT.top (A0Q.mpr rfl) λo H1 k1 h1 hsm=>?_;refine C4 (K:=K) G0 ns (by rw[Bt hT.len,A01]) (λy=>!decide (y=z)) (λy=>PyData.str y) (λ_=>rfl) (by rw[Bt hT.len,A01];omega) (λH' e=>e _ _ h1) (λi y v H2 R1 R2 hy hv e2 a4 a5=>?_) (λl ys H2 hl e2 h2 hL2=>?_)
 . rw[Bt hT.len,A06,hy] at hv
   cases hv;symm;rw[show(!decide (V.str y=V.str z)) = !decide (y=z) by rw[decide_eq_decide.mpr ⟨V.str.inj,congrArg V.str⟩]]
   cases U:!decide (y=z) with
   |true=>rw[A0K rfl];symm;exact a4 U _ H2 (.refl _) (by simp only[Is])
   |false=>rw[A0J A0C];exact a5 U H2 (.refl _)
 have:=IsL.str_eq hL2;subst this;have aA:Keep [r] H H2:=k1.trans (e2.keep _);have aD:=hT.keep aA
 have hfree:∀ {b:Addr},H2 b=none->H b=none:=fun {b} hb=>by
  cases e:H b with
  |none=>rfl
  |some ob=>
    by_cases aF:b=r
    . subst aF;rcases aD.top with g|⟨_,g⟩<;>rw[g] at hb<;>cases hb
    rw[aA.1 b ob (λh=>aF (A0Q.mp h)) e] at hb
    cases hb
 symm;refine Hq (SqL.of h2) ?_;refine Fq (Bc (xs:=(Gv ns z).map V.str)) (λp i acc H3=>Same H2 H3/\∃ bs:List Addr,bs.length=i/\bs.Nodup/\(∀(j:Nat) x b,(Gv ns z)[j]? = some x->bs[j]? = some b->H2 b=none/\∃ ks:List Str,H3 b=some (.dK (Em ks))/\ks.Nodup/\(∀ y∈ks,y∈Gv ns z)/\∀ y,y∈ks↔(y∈Gv ns z/\R x y))/\PrsK K H3 (Eb ((Gv ns z).take i) bs) acc) (λp H' hp e h=>⟨e,[],rfl,by simp,λ_ _ _ _ h=>(by cases h),by simp[Eb];rfl⟩) (λp i acc H3 h=>SqL.of (h.1 _ _ h2)) (λp i x acc H3 hp hx hi aG ha hP=>?_) (λp acc H3 hp ha aG hP=>?_)
 . obtain⟨Z,bs,a1,a8,a0,a3⟩:=hP;rw[A06] at hx
   cases hz:(Gv ns z)[i]? with
   |none=>rw[hz] at hx;cases hx
   |some x'=>
   rw[hz] at hx
   cases hx;have hin:i<(Gv ns z).length:=(A03.mp hz).1;have a6:=aD.same Z;obtain⟨j,a,O,aE⟩:=a6.at (hms x' (A05 hz));obtain⟨aI,g1,g2,g3,g4⟩:=a6.row j x' a O aE;symm;refine Hq (SqL.of (Z _ _ h2)) ?_;refine C4 (K:=K) (Bc (xs:=(Gv ns z).map V.str)) (Gv ns z) (by rw[A01]) (λy=>decide (y∈aI)) aI2 (λ_=>rfl) (by rw[A01];omega) (λH' e=>SqL.of (e _ _ (Z _ _ h2))) (λm y v H4 R1 R2 hy hv Y a4 a5=>?_) (λl4 ys4 H4 hl4 Y h4 hL4=>?_)
   . rw[A06,hy] at hv
     cases hv;symm;refine Rc (a6.same Y) hn O aE ?_;symm;refine P8 ((Y.keep []).rd g1) ?_;refine⟨_,rfl,?_⟩
     cases U:decide (y∈aI) with
     |true=>rw[A0K rfl];symm;refine B3 (Ak (by simp)) λt5 H5 ht5 e5 h5=>?_;exact a4 U _ H5 e5 (Is.of_tup (SqT.of h5) (.cons (by simp only[Is]) (.one (by simp only[Is]))))
     |false=>rw[A0J A0C];exact a5 U H4 (.refl _)
   symm;refine U4 h4 (Yg hL4) (by unfold Em;rw[List.length_map];exact Nat.le_trans (List.length_filter_le _ _) (by omega)) λb H5 a7 e5 h5=>?_;rw[He _ _ (ay1 (a9.sublist A1P)) (λ_ _ _ h=>by cases h),A30] at h5;symm;refine B3 (Ak (by simp)) λt H6 ht6 e6 h6=>?_;have a2:=(Y.trans e5).trans e6;have aC:H6 p=some (.lst acc):=a2 _ _ ha;refine J3 (by rw[A01];omega) hi aG aC λH7 e7 h7=>?_;have hbp:b≠p:=Ne.symm (ne_of_none (Y _ _ ha) a7);have h6b:H6 b=some _:=e6 _ _ h5;have aB:=e7.fzL aC;have old:∀ {c:Addr} {kvs:List (Key×V)},H3 c=some (.dK kvs)->H7 c=some (.dK kvs):=fun {c kvs} U=>e7 _ _ (ne_of U ha (by intro z;cases z)) (a2 _ _ U)
   have hbo:∀ j c,bs[j]? = some c->c≠b:=λj c O=>by have hjl:=(A03.mp O).1;obtain⟨_,ks,q1,_⟩:=a0 j _ c (A00 (by omega)) O;exact ne_of_none (Y _ _ q1) a7
   refine⟨(Z.trans a2).off hp e7,bs++[b],by rw[A08,A1C,a1],?_,λj x c O U=>?_,?_⟩
   . rw[A33];refine⟨a8,by simp,λc hc1 c' hc2 e=>?_⟩;obtain⟨j,O⟩:=A4Y hc1;exact hbo j c O (e.trans (A0Q.mp hc2))
   . rcases A3C j bs.length with g|g
     . rw[A1B g] at U;obtain⟨q0,ks,q1,q2,q3,q4⟩:=a0 j x c O U;exact⟨q0,ks,old q1,q2,q3,q4⟩
     rw[A17 g] at U
     have hj0:j-bs.length=0:=by have:=(A03.mp U).1;simp at this;omega
     rw[hj0] at U
     cases U;have hji:j=i:=by omega
     subst hji;rw[hz] at O
     cases O;refine⟨(Z.trans Y).free a7,_,e7 _ _ hbp h6b,a9.sublist A1P,λy hy=>(A0V.mp hy).1,λy=>?_⟩;rw[A0V,A1M,g4]
   have ht:(Gv ns z).take (i+1)=(Gv ns z).take i++[x']:=by rw[A0U,hz];rfl
   have hlen:((Gv ns z).take i).length=bs.length:=by rw[A0S,a1];omega
   rw[ht,Pg hlen];exact PrsK.snoc (kv:=(Sum.inr x',V.ref b)) (aB.seq (SqT.of h6)) (PrsK.fz (a2.fz.trans aB) a3)
 obtain⟨Z,bs,a1,a8,a0,a3⟩:=hP;rw[A01] at a1;rw[A01,A14] at a3;symm;refine U4 ha a3 (by unfold Eb;rw[List.length_map,List.length_zip];omega) λr' H4 aH Y h4=>?_;rw[He _ _ (Kk a9) (λ_ _ _ h=>by cases h),A30] at h4
 have hra:r'∉bs:=λhm=>by
  obtain⟨j,O⟩:=A4Y hm;have hjl:=(A03.mp O).1;obtain⟨_,ks,g,_⟩:=a0 j _ r' (A00 (by omega)) O;rw[aH] at g
  cases g
 symm;refine k r' bs H4 (hfree (Z.free aH)) (aA.trans ((Z.trans Y).keep _)) (λz=>by rw[hsm z] at e2;exact e2.trans (Z.trans Y)) ⟨a1,a8,hra,h4,λj x b O hb=>?_⟩;obtain⟨_,ks,q1,q2,q3,q4⟩:=a0 j x b O hb;exact⟨ks,Y _ _ q1,q2,q3,q4⟩
def Op (last:Bool)(b:Str->Str->Bool)(ns:List Str):List Str:=ns.filter λx=>!(ns.any λy=>if last=true then b x y else b y x)
def Za {ns:List Str}{R R':Str->Str->Prop}(h:TabR H r ns as R)(e:∀ x y,R x y↔R' x y):TabR H r ns as R':=
 ⟨h.len,h.top,λi z a hz ha=>let ⟨ks,h1,h2,h3,h4⟩:=h.row i z a hz ha;⟨ks,h1,h2,h3,λy=>(h4 y).trans (e z y)⟩⟩
abbrev aC1 (H:Hp)(r:Addr)(ns:List Str)(as:List Addr)(b:Str->Str->Bool):Prop:=TabR H r ns as λx y=>b x y=true
def Kq (K:W.Frag):Sp:=λvs H Q _=>∃ w r ns as b,vs=[.str w,.ref r]/\aC1 H r ns as b/\ns.Nodup/\ns.length<=100/\∀ l H',H l=none->Keep [r] H H'->(∃ o,H' r=some (.frz o (.dK (Eb ns as))))->H' l=some (.lst ((Op (decide (w = "last")) b ns).map V.str))->Q (.ref l) H'
def Yo {H1:Hp}(U:Rd H r (.dK kvs))(O:Keep [r] H H1)(Y:Same H1 H2)(hl:H1 l=none):H l=none:=by
 cases e:H l with
 |none=>rfl
 |some ob=>
   by_cases F:l=r
   . subst F;rcases O.2 l (A0Q.mpr rfl) _ U with g|⟨_,g⟩<;>rw[g] at hl<;>cases hl
   rw[O.1 l ob (λh=>F (A0Q.mp h)) e] at hl
   cases hl
theorem W6 (F:Fu K "ends_of" Ng f fd)(T:Dy mg):FnOk P w K mg base CX0 1 f fd ["word","reach"] (Kq K):=by
 refine F.ok W9 (λvs H Q E h=>?_) (λcdv A outer s H vs Q E hr h=>?_)
 . obtain⟨w,r,ns,as,b,rfl,_⟩:=h;rfl
 obtain⟨w,r,ns,as,b,rfl,O,hn,h100,k⟩:=h;have hu:=Bh hr;have hq:=Bg hr
 with_reducible refine⟨_,(A2 (Av (A7 (Aq (K:=K) hq) (pv 0) Af (Ac _)) (A5 (Aa (As ["name"] ["reach"] [1] ⋯ ⋯ ⋯ (Ao (K:=K) hu (pv 1)) (λ_ _ _ _=>(Ae (i:=0) (by with_unfolding_all (show(["name","reach"]:List Str).Nodup;decide +kernel)) ⋯ (by eq_refl))) (Ap ∅) (λ_ _ _ _=>(Bw (A7 (Aq (K:=K) hq) (A6 Ft ⋯ T.b_len PyProof.Rows.Boot.«len» (A0 (A9 (A4 (K:=K) hu) (pv 1) (pv 0) (by ac_rfl)) A1)) A3 (Ac _)))) (λ_ _ _ _=>(pv 0))))) Ad)
  (A5 (Aa (As ["name"] ["reach"] [1] ⋯ ⋯ ⋯ (Ao (K:=K) hu (pv 1)) (λ_ _ _ _=>(Ae (i:=0) (by with_unfolding_all (show(["name","reach"]:List Str).Nodup;decide +kernel)) ⋯ (by with_unfolding_all exact A35 rfl))) (Ap ∅) (λ_ _ _ _=>(Bw (Bj (B8 (A6 (My (K:=K) ⋯) ⋯ T.b_any PyProof.Rows.Boot.«any» (A0 (As ["one"] ["name","reach"] [0,1] ⋯ ⋯ ⋯ (Ao (K:=K) hu (pv 1)) (λ_ _ _ _=>(Ae (i:=0) (by with_unfolding_all (show(["one","name","reach"]:List Str).Nodup;decide +kernel)) ⋯ (by eq_refl))) (Ap ∅) (λ_ _ _ _=>B2) (λ_ _ _ _=>(At (D3 (K:=K) hq) (pv 1) (A9 (A4 (K:=K) hu) (pv 2) (pv 0) (by ac_rfl)) ⋯))) A1)))))) (λ_ _ _ _=>(pv 0)))))),?_⟩
 symm;refine Gw (λhc=>?_) (λhc=>?_)
 . have hw:w = "last":=V.str.inj hc;symm;refine Q2 (as:=[r]) O.top (A0Q.mpr rfl) λo H1 Y h1=>?_;refine C4 (K:=K) G0 ns (by rw[Bt O.len,A01]) (λx=>!(ns.any λy=>b x y)) (λy=>PyData.str y) (λ_=>rfl) (by rw[Bt O.len,A01];omega) (λH' e=>e _ _ h1) (λi y v H2 R1 R2 hy hv U a2 a3=>?_) (λl ys H2 hl U h2 a1=>?_)
   . rw[Bt O.len,A06,hy] at hv
     cases hv;have Z:=(O.keep Y).same U;obtain⟨j,a,hj,a0⟩:=Z.at (A05 hy);obtain⟨ks,g1,g2,g3,g4⟩:=Z.row j y a hj a0;symm;refine Rc Z hn hj a0 ?_;symm;refine R8 g1 ?_;rw[Gc];symm
     have e:decide (V.int (ks.length:Int)=V.int 0) = !(ns.any λz=>b y z):=by
      rw[A15,A1M,A3O,A32];constructor
      . intro h z hz hb;have:=A1D.mp (show ks.length=0 by have:=V.int.inj h;omega);have:=(g4 z).mpr hb
        simp_all
      intro h;have:ks=[]:=List.eq_nil_iff_forall_not_mem.mpr λz hz=>h z (g3 z hz) ((g4 z).mp hz);rw [this];rfl
     rw[e]
     cases hcc:!(ns.any λz=>b y z) with
     |true=>rw[A0K rfl];symm;exact a2 hcc _ H2 (.refl _) (by simp only[Is])
     |false=>rw[A0J A0C];exact a3 hcc H2 (.refl _)
   have:=IsL.str_eq a1;subst this;symm;refine k l H2 (Yo O.top Y U hl) (Y.trans (U.keep _)) ⟨o,U _ _ h1⟩ ?_;rw[h2,A0D hw];rfl
 have hw:w ≠ "last":=λz=>hc (congrArg V.str z);symm;refine Q2 (as:=[r]) O.top (A0Q.mpr rfl) λo H1 Y h1=>?_;refine C4 (K:=K) G0 ns (by rw[Bt O.len,A01]) (λx=>!(ns.any λy=>b y x)) (λy=>PyData.str y) (λ_=>rfl) (by rw[Bt O.len,A01];omega) (λH' e=>e _ _ h1) (λi y v H2 R1 R2 hy hv U a2 a3=>?_) (λl ys H2 hl U h2 a1=>?_)
 . rw[Bt O.len,A06,hy] at hv
   cases hv;have Z:=(O.keep Y).same U;symm;refine aj3 (U _ _ h1) ?_;refine Kf (K:=K) G0 ns (by rw[Bt O.len,A01]) (λx=>b x y) (by rw[Bt O.len,A01];omega) (λH' e=>e _ _ (U _ _ h1)) (λm x xv H3 R hx a5 e3 hR=>?_) (λq H3 hq3 e3 h3=>?_)
   . rw[Bt O.len,A06,hx] at a5
     cases a5;have a4:=Z.same e3;obtain⟨j,a,hj,a0⟩:=a4.at (A05 hx);obtain⟨ks,g1,g2,g3,g4⟩:=a4.row j x a hj a0;symm;refine Rc a4 hn hj a0 ?_;symm;refine P8 g1 ?_;rw[show decide (y∈ks)=b x y by rw[A15,A1M];exact g4 y];exact hR H3 (.refl _)
   symm;refine an8 h3 ?_;rw[show(ns.map λx=>b x y).any id=ns.any λx=>b x y by rw[A4R];rfl];symm
   cases hcc:!(ns.any λz=>b z y) with
   |true=>rw[A0K rfl];symm;exact a2 hcc _ H3 e3 (by simp only[Is])
   |false=>rw[A0J A0C];exact a3 hcc H3 e3
 have:=IsL.str_eq a1;subst this;symm;refine k l H2 (Yo O.top Y U hl) (Y.trans (U.keep _)) ⟨o,U _ _ h1⟩ ?_;rw[h2,A0H hw];rfl
def SpT (H:Hp)(rs:List Addr)(hs:List (List Str×(Str->Str->Bool))):Prop:=rs.length=hs.length/\∀(i:Nat) a e,rs[i]? = some a->hs[i]? = some e->e.1.Nodup/\e.1.length<=100/\∃ as,aC1 H a e.1 as e.2
theorem SpT.keep {bs:List Addr}{rs:List Addr}{hs:List (List Str×(Str->Str->Bool))}(h:SpT H rs hs)(k:Keep bs H H'):SpT H' rs hs:=⟨h.1,λi a e ha F=>let ⟨h1,h2,as,h3⟩:=h.2 i a e ha F;⟨h1,h2,as,h3.keep k⟩⟩
def ap4 (last:Bool)(b:Str->Str->Bool)(ns:List Str)(hs:List (List Str×(Str->Str->Bool))):Prop:=ns≠[]/\hs.length=(Op last b ns).length/\∀(i:Nat) z e,(Op last b ns)[i]? = some z->hs[i]? = some e->(∀ x,x∈e.1↔x∈Gv ns z)/\∀ x∈e.1,∀ y,e.2 x y=true↔(y∈Gv ns z/\b x y=true)
def Hd (K:W.Frag):Sp:=λvs H Q _=>∃ r v O w D ns as b rs hs,vs=[.ref r,v,.ref O]/\Is K H (.tuple [.str w,D]) v/\aC1 H r ns as b/\ns.Nodup/\ns.length<=100/\H O=some (.lst (rs.map V.ref))/\SpT H rs hs/\rs.length<=1000/\∀ F H',Keep [r] H H'->(F=true↔ap4 (decide (w = "last")) b ns hs)->Q (.bl F) H'
theorem Rb (F:Fu K "fits_ends" J7 f fd)(T:Dy mg)(F6:Fnd P w K mg base 1 "reach_without" ["reach","name"] (Ei K))(Mp:Fnd P w K mg base 1 "ends_of" ["word","reach"] (Kq K)):FnOk P w K mg base CX0 2 f fd ["reach","rule","spoken"] (Hd K):=by
 refine F.ok Lw (λvs H Q E h=>?_) (λcdv A outer s H vs Q E hr h=>?_)
 . obtain⟨r,v,sl,w,D,ns,as,b,rs,hs,rfl,_⟩:=h;rfl
 obtain⟨r,v,sl,w,D,ns,as,b,rs,hs,rfl,hI,Z,hn,a3,a7,a0,h1000,k⟩:=h;have hu:=Bh hr;have hq:=Bg hr;have htl:(Eb ns as).length=ns.length:=by unfold Eb;rw[List.length_map,List.length_zip,Z.len,Nat.min_self]
 obtain⟨ta,xs,rfl,hS,hL⟩:=Is.tup hI;obtain⟨y0,hy0,a4⟩:=IsL.at hL (show [PyData.str w,D][0]? = some (.str w) from rfl);simp only[Is] at a4;subst a4
 with_reducible refine⟨_,(A2 (Ai (i:=3) Lw.nd ⋯ (by eq_refl) (An Mp (hr.mono ∅) ⋯ (A0 (A9 (A4 (K:=K) hu) (pv 1) A3 (by ac_rfl)) (A0 (pv 0) A1))))
  (A2 (Av (PW.pt (E9 (A7 (Aq (K:=K) hq) (A6 Ft ⋯ T.b_len PyProof.Rows.Boot.«len» (A0 (pv 0) A1)) A3 (Ac _)) (Dj (A7 (C8 (K:=K) hq) (A6 (Ab (K:=K)) ⋯ T.b_len PyProof.Rows.Boot.«len» (A0 (pv 2) A1)) (A6 (Ab (K:=K)) ⋯ T.b_len PyProof.Rows.Boot.«len» (A0 (pv 3) A1)) (Ac _))))) (A5 (Aa E6)) Ad)
  (A5 (Aa (A6 (Ib (K:=K) ⋯) ⋯ T.b_all PyProof.Rows.Boot.«all» (A0 (As ["name","rest"] ["reach"] [0] ⋯ ⋯ ⋯ (al4 (K:=K) ⋯ T.b_zip (A0 (pv 3) (A0 (pv 2) A1))) (λ_ _ _ _=>(Lc (K:=K) (n:=2) ⋯ (Ce (Ae (i:=0) (by with_unfolding_all (show(["name","rest","reach"]:List Str).Nodup;decide +kernel)) ⋯ (by eq_refl)) (Ce (Ae (i:=1) (by with_unfolding_all (show(["name","rest","reach"]:List Str).Nodup;decide +kernel)) ⋯ (by eq_refl)) Jw)))) (ac8 (Q9 ∅ (Q9 ∅ aa8))) (λ_ _ _ _=>B2) (λ_ _ _ _=>(At (N0 hq) (pv 1) (An F6 (hr.mono ∅) ⋯ (A0 (pv 2) (A0 (pv 0) A1))) (Ac _)))) A1)))))),?_⟩
 symm;refine Au hS (show atI xs ((0:Nat):Int)=_ from Ag hy0) ?_;symm;refine⟨w,r,ns,as,b,rfl,Z,hn,a3,λl H1 hl U a2 h1=>?_⟩;obtain⟨o,a2⟩:=a2;have a5:=Z.keep U;have hsr:sl≠r:=λz=>by rcases Z.top with g|⟨_,g⟩<;>rw[<- z,a7] at g<;>cases g
 have hsl1:H1 sl=some (.lst (rs.map V.ref)):=U.1 sl _ (λh=>hsr (A0Q.mp h)) a7;have hSp1:=a0.keep U;symm;refine R8 a5.top ?_;rw[htl];symm;refine Gw (λhc=>?_) (λhc=>?_)
 . symm;refine k false H1 U ⟨λh=>(by cases h),λh=>absurd ?_ h.1⟩;exact A1D.mp (by have:=V.int.inj hc;omega)
 have hne:ns≠[]:=λz=>hc (by rw[z];rfl);symm;refine M0 (λa1=>?_) (λa1=>?_)
 . symm;refine k false H1 U ⟨λh=>(by cases h),λh=>absurd ?_ a1⟩;rw[A01,A01,a0.1,h.2.1]
 have hlen:rs.length=(Op (decide (w = "last")) b ns).length:=by have:=V.int.inj a1;rw[A01,A01] at this;omega
 symm;refine ae0 ?_;symm;have hlen2:rs.length=hs.length:=a0.1
 obtain⟨f,hf⟩:∃ f:Nat->Bool,∀(i:Nat) z e,(Op (decide (w = "last")) b ns)[i]? = some z->hs[i]? = some e->(f i=true↔((∀ x,x∈e.1↔x∈Gv ns z)/\∀ x∈e.1,∀ y,e.2 x y=true↔(y∈Gv ns z/\b x y=true))):=by
  classical
  refine⟨λi=>decide (∀ z e,(Op (decide (w = "last")) b ns)[i]? = some z->hs[i]? = some e->((∀ x,x∈e.1↔x∈Gv ns z)/\∀ x∈e.1,∀ y,e.2 x y=true↔(y∈Gv ns z/\b x y=true))),λi z e hz O=>?_⟩;rw[A1M];exact⟨λh=>h z e hz O,λh z' e' a8 a6=>by rw[hz] at a8;rw[O] at a6;cases a8;cases a6;exact h⟩
 refine Z0 (f:=f) (SqL.of h1) (SqL.of hsl1) (by rw[A01];omega) (λi x y H2 R hx hy Y hR=>?_) (λp H2 hp Y h2=>?_)
 . rw[A06] at hx hy;obtain⟨z,hz,rfl⟩:=A0Z.mp hx;obtain⟨a,ha,rfl⟩:=A0Z.mp hy;have hil:=(A03.mp ha).1;have O:=A00 (show i<hs.length by omega);generalize hs[i]=e at O;obtain⟨n1,n2,as1,hTa⟩:=hSp1.2 i a e ha O;symm;refine⟨r,z,ns,as,_,rfl,a5.same Y,hn,a3,λr' as' H3 hr3 k3 hsm hT3=>?_⟩;have e3:=hsm ⟨_,_,Y _ _ a2⟩;symm;refine⟨a,r',e.1,Gv ns z,as1,as',_,_,rfl,rfl,hTa.same (Y.trans e3),hT3.toR,n1,hn.sublist A1P,λbb hbb=>?_⟩
   obtain rfl:bb=f i:=by rw[A15,hbb,hf i z e hz O]
   exact hR H3 e3
 symm;refine Zg (SqL.of h2) ?_;refine k _ H2 (U.trans (Y.keep _)) ?_;rw[A3T,A0L];have hmin:min ((Op (decide (w = "last")) b ns).map V.str).length (rs.map V.ref).length=hs.length:=by rw[A01,A01];omega
 rw[hmin];constructor
 . intro h;refine⟨hne,by omega,λi z e hz O=>(hf i z e hz O).mp (h i (A28.mpr (A03.mp O).1))⟩
 rintro⟨_,_,h3⟩ i hi;have hi:=A28.mp hi;have O:=A00 hi;have hz:=A00 (show i<(Op (decide (w = "last")) b ns).length by omega);exact(hf i _ _ hz O).mpr (h3 i _ _ hz O)
inductive Ru:PyData->List Int->Prop
 |row:Ru (.tuple [.str "row"]) []
 |ends (w:Str) (hw:w = "last" \/ w = "first") (js:List Int) (hl:js.length<=1000):Ru (.tuple [.str w,.tuple (js.map PyData.int)]) js
def Hr (K:W.Frag):Sp:=λvs H Q _=>∃(v r:V) (js:List Int),vs=[.str "numbers",v,r]/\Is K H (.tuple (js.map PyData.int)) v/\js.length<=1000/\∀ H',Same H H'->Q (.bl true) H'
def Lm (K:W.Frag):Sp:=λvs H Q _=>∃ v r D js,vs=[v,r]/\Is K H D v/\Ru D js/\∀ H',Same H H'->Q (.bl true) H'
theorem Sg (F:Fu K "fits_kind" K2 f fd)(T:Dy mg)(Du:Fnd P w K mg base 1 "is_whole" ["thing"] (Gp K))(Bf:Fnd P w K mg base 2 "are_unlike_names" ["thing"] (C3 K)):FnOk P w K mg base CX0 3 f fd ["kind","thing","reach"] (Hr K):=by
 refine F.ok Rw (λvs H Q E h=>?_) (λcdv A outer s H vs Q E O h=>?_)
 . obtain⟨v,r,js,rfl,_⟩:=h;rfl
 obtain⟨v,r,js,rfl,Z,hjl,k⟩:=h;have hu:=Bh O;have U:=Bg O
 with_reducible refine⟨_,(A2 (Av (A7 (Aq (K:=K) U) (pv 0) Af (Ac _)) (A5 (Aa (An Du (O.mono ∅) ⋯ (A0 (pv 1) A1)))) Ad)
  (A2 (Av (A7 (Aq (K:=K) U) (pv 0) Af (Ac _)) (A5 (Aa (Cm (A6 (Al (K:=K)) ⋯ T.b_isinstance PyProof.Rows.Boot.«isinstance» (A0 (pv 1) (A0 (B9 (v:=.ty "tuple") ⋯ T.b_tuple PyProof.Rows.Boot.«tuple» ⋯) A1))) (D9 (A6 (Ib (K:=K) ⋯) ⋯ T.b_all PyProof.Rows.Boot.«all» (A0 (As ["ref"] [] [] ⋯ ⋯ ⋯ (Ao (K:=K) hu (pv 1)) (λ_ _ _ _=>(Ae (i:=0) (by with_unfolding_all (show(["ref"]:List Str).Nodup;decide +kernel)) ⋯ (by eq_refl))) (Ap ∅) (λ_ _ _ _=>B2) (λ_ _ _ _=>(An Du (O.mono ∅) ⋯ (A0 (pv 0) A1)))) A1)))))) Ad)
  (A2 (Av (A7 (Aq (K:=K) U) (pv 0) Af (Ac _)) (A5 (Aa (An Bf (O.mono ∅) ⋯ (A0 (pv 1) A1)))) Ad)
  (A5 (Aa (Cm (A6 (Al (K:=K)) ⋯ T.b_isinstance PyProof.Rows.Boot.«isinstance» (A0 (pv 1) (A0 (B9 (v:=.ty "str") ⋯ T.b_str PyProof.Rows.Boot.«str» ⋯) A1))) (D9 (At (D3 (K:=K) U) (pv 1) (pv 2) ⋯)))))))),?_⟩
 obtain⟨ta,xs,rfl,hS,hL⟩:=Is.tup Z;have a0:=IsL.length hL;rw[A01] at a0;symm;refine Gw (λh=>?_) (λ_=>?_)
 . injection h with h;exact absurd h ∅
 symm;refine Ep Z ?_;symm;rw[A0K (by rfl)];symm;refine Ix hS ?_;refine Kf (K:=K) (By (xs:=xs)) js a0 (λ_=>true) (by omega) (λH' e=>e.seqT hS) (λm d xv H1 R hd hxv Y hR=>?_) (λq H1 hq1 Y h1=>?_)
 . obtain⟨y,hy,hIy⟩:=IsL.at (IsL.mono Y _ _ hL) (show(js.map PyData.int)[m]? = some (.int d) by rw[A06,hd];rfl);rw[hxv] at hy
   cases hy;symm;exact⟨xv,_,rfl,hIy,hR H1 (.refl _)⟩
 symm;refine Zg h1 ?_;rw[show(js.map λ_=>true).all id=true by rw[A3T,A0L];exact λ_ _=>rfl];exact k H1 Y
theorem Wk (F:Fu K "is_rule" Nq f fd)(T:Dy mg)(O:Nc P w K mg D_RULES RULES_t0 RULES_t1 RULES_t2 RULES_t3 RULES_t4 RULES_t5 RULES_t6 RULES_t7)(K1:Fnd P w K mg base 3 "fits_kind" ["kind","thing","reach"] (Hr K)):FnOk P w K mg base CX0 4 f fd ["thing","reach"] (Lm K):=by
 refine F.ok O8 (λvs H Q E h=>?_) (λcdv A outer s H vs Q E hr h=>?_)
 . obtain⟨v,r,D,js,rfl,_⟩:=h;rfl
 obtain⟨v,r,D,js,rfl,hI,hR,k⟩:=h;have hu:=Bh hr;have hq:=Bg hr
 with_reducible refine⟨_,(A2 (Av (PW.pt (E9 (Bj (B8 (A6 (Al (K:=K)) ⋯ T.b_isinstance PyProof.Rows.Boot.«isinstance» (A0 (pv 0) (A0 (B9 (v:=.ty "tuple") ⋯ T.b_tuple PyProof.Rows.Boot.«tuple» ⋯) A1))))) (Dj (A7 (Aq (K:=K) hq) (A6 (Ab (K:=K)) ⋯ T.b_len PyProof.Rows.Boot.«len» (A0 (pv 0) A1)) A3 (Ac _))))) (A5 (Aa E6)) Ad)
  (A2 (Av (PW.pt (E9 (Bj (B8 (A6 (Al (K:=K)) ⋯ T.b_isinstance PyProof.Rows.Boot.«isinstance» (A0 (A9 (A4 (K:=K) hu) (pv 0) A3 (by ac_rfl)) (A0 (B9 (v:=.ty "str") ⋯ T.b_str PyProof.Rows.Boot.«str» ⋯) A1))))) (Dj (A7 (Tf O.kd) (A9 (A4 (K:=K) hu) (pv 0) A3 (by ac_rfl)) (Kv (v:=.ref D_RULES) ⋯ ⟨_,O.gl,⋯⟩) ⋯)))) (A5 (Aa E6)) Ad)
  (A2 (Ai (i:=2) O8.nd ⋯ (by eq_refl) (A9 (a97 O.kd) (Kv (v:=.ref D_RULES) ⋯ ⟨_,O.gl,⋯⟩) (A9 (A4 (K:=K) hu) (pv 0) A3 (by ac_rfl)) (by ac_rfl)))
  (A2 (Av (A7 (C8 (K:=K) hq) (A6 (Ab (K:=K)) ⋯ T.b_len PyProof.Rows.Boot.«len» (A0 (pv 0) A1)) (B1 (B7 (K:=K)) A3 (A6 (Ab (K:=K)) ⋯ T.b_len PyProof.Rows.Boot.«len» (A0 (pv 2) A1))) (Ac _)) (A5 (Aa E6)) Ad)
  (A5 (Aa (A6 (Ib (K:=K) ⋯) ⋯ T.b_all PyProof.Rows.Boot.«all» (A0 (As ["kind","part"] ["reach"] [1] ⋯ ⋯ ⋯ (a96 (K:=K) ⋯ T.b_zip (A0 (pv 2) (A0 (Bl (Q7 (K:=K)) (pv 0) (Bk A3) Dd) A1))) (λ_ _ _ _=>(Lc (K:=K) (n:=2) ⋯ (Ce (Ae (i:=0) (by with_unfolding_all (show(["kind","part","reach"]:List Str).Nodup;decide +kernel)) ⋯ (by eq_refl)) (Ce (Ae (i:=1) (by with_unfolding_all (show(["kind","part","reach"]:List Str).Nodup;decide +kernel)) ⋯ (by eq_refl)) Jw)))) (ac8 (Q9 ∅ (Q9 ∅ aa8))) (λ_ _ _ _=>B2) (λ_ _ _ _=>(An K1 (hr.mono ∅) ⋯ (A0 (pv 0) (A0 (pv 1) (A0 (pv 2) A1)))))) A1)))))))),?_⟩
 obtain⟨w,ds,rfl,t,ks,hk,hq',hkl,hke,hd1⟩:∃(w:Str) (ds:List PyData),D = .tuple (.str w :: ds)/\∃(t:Addr) (ks:List Str),Gq [((Sum.inr "row":Key),V.ref RULES_t0),(Sum.inr "ask",V.ref RULES_t1),(Sum.inr "last",V.ref RULES_t2),(Sum.inr "first",V.ref RULES_t3),(Sum.inr "above",V.ref RULES_t4),(Sum.inr "beside",V.ref RULES_t5),(Sum.inr "turned",V.ref RULES_t6),(Sum.inr "called",V.ref RULES_t7)] (Sum.inr w:Key)=some (.ref t)/\(∀ H,SqT K H t (ks.map V.str))/\ks.length=ds.length/\(∀(i:Nat) k d,ks[i]? = some k->ds[i]? = some d->k = "numbers" /\ d = .tuple (js.map PyData.int)/\js.length<=1000)/\ds.length<=1:=by
  cases hR with
  |row=>exact⟨_,_,rfl,RULES_t0,[],by rfl,O.q_row,rfl,(λi k d h=>by cases h),by simp⟩
  |ends w hw js hl=>
    have one:∀(i:Nat) (k:Str) (d:PyData),([("numbers":Str)]:List Str)[i]? = some k->[PyData.tuple (js.map PyData.int)][i]? = some d->k = "numbers" /\ d = .tuple (js.map PyData.int)/\js.length<=1000:=λi k d h1 h2=>by
     cases i with
     |zero=>cases h1;cases h2;exact⟨rfl,rfl,hl⟩
     |succ i=>cases h1
    rcases hw with rfl|rfl
    . exact⟨_,_,rfl,RULES_t2,["numbers"],by rfl,O.q_last,rfl,one,by simp⟩
    exact⟨_,_,rfl,RULES_t3,["numbers"],by rfl,O.q_first,rfl,one,by simp⟩
 obtain⟨ta,xs,rfl,U,Z⟩:=Is.tup hI;have a4:=IsL.length Z;obtain⟨y0,a0,a1⟩:=IsL.at Z (show(PyData.str w :: ds)[0]? = some (.str w) from rfl);simp only[Is] at a1;subst a1;symm;refine Ep hI ?_;symm;rw[A0J (by intro z;cases z)];symm;refine .inl ⟨.ref ta,_,rfl,.inr ⟨_,U,rfl⟩,?_⟩;symm;refine Gw (λh=>?_) (λ_=>?_)
 . injection h with h;rw[<- a4,A0X] at h;omega
 symm;refine Au U (show atI xs ((0:Nat):Int)=_ from Ag a0) ?_;symm;refine F7 (.str w) (b:=true) (by rfl) ?_;symm;refine Au U (show atI xs ((0:Nat):Int)=_ from Ag a0) ?_;symm;refine am7 ?_;rw[hk];symm;rw[A0J (by intro z;cases z)];symm;refine Au U (show atI xs ((0:Nat):Int)=_ from Ag a0) ?_;symm;refine ac6 hk ?_;have hl1:xs.length=1+ks.length:=by rw[<- a4,hkl,A0X];omega
 symm;refine .inl ⟨.ref ta,_,rfl,.inr ⟨_,U,rfl⟩,?_⟩;symm;refine .inl ⟨.ref t,_,rfl,.inr ⟨_,hq' H,rfl⟩,?_⟩;symm;refine M0 (λh=>absurd (by rw[hl1,A01];congr 1) h) (λ_=>?_);symm;refine ab8 ?_;symm;refine Z8 U λq2 H2 e2 h2=>?_;rw[Fw (by omega)] at h2;symm;refine a73 (f:=λ_=>true) (hq' H2) h2 (by rw[A01];omega) (λi x y H3 R hx hy Y hR=>?_) (λp H3 hp3 Y h3=>?_)
 . rw[A06] at hx;obtain⟨k',a3,rfl⟩:=A0Z.mp hx;rw[List.getElem?_drop] at hy;have hi:=(A03.mp a3).1;have hd:=A00 (show i<ds.length by omega);obtain⟨y',hy',a2⟩:=IsL.at (IsL.mono (e2.trans Y) _ _ Z) (show(PyData.str w :: ds)[1+i]? = some ds[i] by rw[Nat.add_comm,List.getElem?_cons_succ];exact hd);rw[show((1:Int)).toNat+i=1+i from rfl,hy'] at hy
   cases hy;obtain⟨rfl,hd2,hjl⟩:=hke i k' _ a3 hd;rw[hd2] at a2;symm;exact⟨y,r,js,rfl,a2,hjl,λH4 e4=>hR H4 e4⟩
 symm;refine Zg (SqL.of h3) ?_;rw[show((List.range (min (ks.map V.str).length (xs.drop ((1:Int)).toNat).length)).map λ_=>true).all id=true by rw[A3T,A0L];exact λ_ _=>rfl];exact k H3 (e2.trans Y)
def L6 (K:W.Frag):Sp:=λvs H Q _=>∃ v D js,vs=[v]/\Is K H D v/\Ru D js/\∀ p H',H p=none->Same H H'->H' p=some (.lst (js.map V.int))->Q (.ref p) H'
theorem Gd {K:W.Frag}{H:Hp}:∀ {js:List Int} {xs:List V},IsL K H (js.map PyData.int) xs->xs=js.map V.int
 | [],xs,h=>by simp only[List.map_nil,L2.IsL] at h;exact h
 |j :: js,xs,h=>by simp only[List.map_cons,L2.IsL] at h;obtain⟨v,r,rfl,h1,h2⟩:=h;simp only[L2.Is] at h1;rw[h1,Gd h2];rfl
theorem Vq (F:Fu K "refs_of" Ms f fd)(T:Dy mg)(Z:Nc P w K mg D_RULES RULES_t0 RULES_t1 RULES_t2 RULES_t3 RULES_t4 RULES_t5 RULES_t6 RULES_t7):FnOk P w K mg base CX0 1 f fd ["rule"] (L6 K):=by
 refine F.ok Iu (λvs H Q E h=>?_) (λcdv A outer s H vs Q E hr h=>?_)
 . obtain⟨v,D,js,rfl,_⟩:=h;rfl
 obtain⟨v,D,js,rfl,hI,hR,k⟩:=h;have hu:=Bh hr;have hq:=Bg hr
 with_reducible refine⟨_,(A2 (Ai (i:=1) Iu.nd ⋯ (by eq_refl) (Bm A1))
  (A2 (E4 A18 ⋯ (a96 (K:=K) ⋯ T.b_zip (A0 (A9 (a97 Z.kd) (Kv (v:=.ref D_RULES) ⋯ ⟨_,Z.gl,⋯⟩) (A9 (A4 (K:=K) hu) (pv 0) A3 (by ac_rfl)) (by ac_rfl)) (A0 (Bl (Q7 (K:=K)) (pv 0) (Bk A3) Dd) A1))) (Lc (K:=K) (n:=2) ⋯ (Ce (Ae (i:=2) Iu.nd ⋯ (by eq_refl)) (Ce (Ae (i:=3) Iu.nd ⋯ (by eq_refl)) Jw)))
  (A2 (Av (A7 (Aq (K:=K) hq) (pv 2) Af (Ac _)) (A5 (Do (Ig (K:=K) A1A A2M A2N (mm G3) (pv 1) (A0 (pv 3) A1)))) Ad)
  (A5 (Av (A7 (Aq (K:=K) hq) (pv 2) Af (Ac _)) (A5 (Do (Ig (K:=K) A1A A4C A4D (mm (Vv (K:=K))) (pv 1) (A0 (pv 3) A1)))) Ad))))
  (A5 (Aa (pv 1))))),?_⟩
 obtain⟨w,ds,rfl,t,n,hk,hq',hds,hjl⟩:∃(w:Str) (ds:List PyData),D = .tuple (.str w :: ds)/\∃(t:Addr) (n:Nat),Gq [((Sum.inr "row":Key),V.ref RULES_t0),(Sum.inr "ask",V.ref RULES_t1),(Sum.inr "last",V.ref RULES_t2),(Sum.inr "first",V.ref RULES_t3),(Sum.inr "above",V.ref RULES_t4),(Sum.inr "beside",V.ref RULES_t5),(Sum.inr "turned",V.ref RULES_t6),(Sum.inr "called",V.ref RULES_t7)] (Sum.inr w:Key)=some (.ref t)/\(∀ H,SqT K H t (List.replicate n (V.str "numbers")))/\((n=0/\ds=[]/\js=[])\/(n=1/\ds=[.tuple (js.map PyData.int)]))/\js.length<=1000:=by
  cases hR with
  |row=>exact⟨_,_,rfl,RULES_t0,0,by rfl,Z.q_row,.inl ⟨rfl,rfl,rfl⟩,by simp⟩
  |ends w hw js hl=>
    rcases hw with rfl|rfl
    . exact⟨_,_,rfl,RULES_t2,1,by rfl,Z.q_last,.inr ⟨rfl,rfl⟩,hl⟩
    exact⟨_,_,rfl,RULES_t3,1,by rfl,Z.q_first,.inr ⟨rfl,rfl⟩,hl⟩
 obtain⟨ta,xs,rfl,hS,hL⟩:=Is.tup hI;have hlen:=IsL.length hL;obtain⟨y0,hy0,a1⟩:=IsL.at hL (show(PyData.str w :: ds)[0]? = some (.str w) from rfl);simp only[Is] at a1;subst a1;rw[A0X] at hlen;have hnl:n=ds.length:=by rcases hds with ⟨rfl,rfl,_⟩|⟨rfl,rfl⟩<;>rfl
 symm;refine Br (Ak (by simp)) λp H1 hp e1 h1=>?_;symm;refine ab8 ?_;symm;refine Au (e1.seqT hS) (show atI xs ((0:Nat):Int)=_ from Ag hy0) ?_;symm;refine ac6 hk ?_;symm;refine Z8 (e1.seqT hS) λq2 H2 e2 a0=>?_;rw[Fw (by omega)] at a0;symm;have hmn:min (List.replicate n (V.str "numbers")).length (xs.drop ((1:Int)).toNat).length=n:=by rw[A1R,A1N,show((1:Int)).toNat=1 from rfl];omega
 refine ah6 (hq' H2) a0 (λi σ O=>∃ x2 x3,σ=[some (.ref ta),some (.ref p),x2,x3]/\Same H O/\SqT K O q2 (xs.drop ((1:Int)).toNat)/\O p=some (.lst (if i=0 then [] else js.map V.int))) ⟨_,_,rfl,e1.trans e2,a0,e2 _ _ h1⟩ (λi σ O Y=>?_) (λi x y σ O H4 hx hy Y e4=>?_) (fun σ O Y=>?_)
 . obtain⟨_,_,_,_,h,_⟩:=Y;exact⟨hq' _,h⟩
 . obtain⟨x2,x3,rfl,e3,a2,U⟩:=Y;have hx':x=V.str "numbers":=List.eq_of_mem_replicate (A05 hx);subst hx';have hil:i<n:=by have:=(A03.mp hx).1;rwa[A1R] at this
   rcases hds with ⟨rfl,_,_⟩|⟨rfl,rfl⟩
   . omega
   have hi0:i=0:=by omega
   subst hi0;obtain⟨y',hy',hIy⟩:=IsL.at (IsL.mono (e3.trans e4) _ _ hL) (show(PyData.str w :: [PyData.tuple (js.map PyData.int)])[1]? = some (.tuple (js.map PyData.int)) from rfl);rw[List.getElem?_drop,show((1:Int)).toNat+0=1 from rfl,hy'] at hy
   cases hy;obtain⟨ja,js',rfl,hSj,hLj⟩:=Is.tup hIy;have hje:=Gd hLj;subst hje;have h4:=e4 _ _ U;symm;refine Gw (λh=>?_) (λ_=>?_)
   . injection h with h;exact absurd h ∅
   symm;refine aA8 h4 hSj (by rw[List.length_map];simp;omega) λH5 e5 h5=>?_;symm;refine⟨_,_,rfl,(e3.trans e4).off hp e5,?_,?_⟩
   . rcases e4.seqT a2 with g|g
     . exact .inl (e5.fzL h4 _ _ g)
     exact .inr g
   rw[h5,A0K rfl,A0J (by omega),A30]
 obtain⟨x2,x3,rfl,e3,a2,U⟩:=Y;rw[hmn] at U;symm;refine k p O hp e3 ?_;rcases hds with ⟨rfl,_,rfl⟩|⟨rfl,_⟩
 . exact U
 exact U
local macro_rules | `(tactic| walk_at "rq1") => `(tactic| with_reducible first | refine au3 ?_ | refine i_tMkX0 ?_ | refine ah1 ?_ | refine af8 ?_)
def aF6 {F:List V}{a b:Str}(h:F.length=[a,b].length):∃ v u,F=[v,u]:=by
 match F,h with
 | [v,u],_=>exact⟨v,u,rfl⟩
theorem Na (F:Fun K "__init__" "NoPaper.__init__" Ca f fd)(T:Dy mg)(x_HalfError:Et K mg C_HalfError C_HalfError)(O:Gb K mg C_NoPaper C_HalfError):FnOk P w K mg base CX0 1 f fd ["self","word","row"] (spX C_NoPaper ["word","row"]):=by
 refine F.ok N3 (λvs H Q E h=>?_) (λcdv A outer s H vs Q E hr h=>?_)
 . obtain⟨a,ws,rfl,hl,_⟩:=h;obtain⟨v,u,rfl⟩:=aF6 hl;rfl
 obtain⟨a,ws,rfl,hl,ha,k⟩:=h;obtain⟨v,u,rfl⟩:=aF6 hl
 with_reducible refine⟨_,(A2 (Uh (K:=K) (pv 0) (pv 1) ⋯)
  (A5 (Uh (K:=K) (pv 0) (pv 2) ⋯))),?_⟩
 symm;refine as0 ha O.xc O.n_word λdx H1 h1 h2 h3 Z h5=>?_;symm;refine ax4 Z h5 O.xc O.n_row (by simp) λH2 Y g2=>?_;symm;exact k dx H2 h1 h2 (λb b1 U=>(Y b U).trans (h3 b b1 U)) ((Y a (Ne.symm h2)).trans Z) g2
def Gx:PyData->Bool
 |.tuple [_]=>true
 |_=>false
def al7 (D:PyData)(ns:List Str)(ps:List (Str×Str))(hs:List (List Str×(Str->Str->Bool))):Prop:=(D = .tuple [.str "row"]/\unP ns ps=[])\/∃ w J,D = .tuple [.str w,J]/\ap4 (decide (w = "last")) (Ck ps) ns hs
def Ik (K:W.Frag):Sp:=λvs H Q _=>∃ r v F D js ns ps as rs hs,vs=[.ref r,v,.ref F]/\Is K H D v/\Ru D js/\TabR H r ns as (Way ps)/\HalfW ns ps/\H F=some (.lst (rs.map V.ref))/\SpT H rs hs/\rs.length<=1000/\∀ b H',Keep [r] H H'->(b=true↔al7 D ns ps hs)->Q (.bl b) H'
def Gr (K:W.Frag):Sp:=λvs H Q _=>∃(r v F:V) (nl:Addr) (D:PyData) (js ms:List Int),vs=[r,v,F,.ref nl]/\Is K H D v/\Ru D js/\H nl=some (.lst (ms.map V.int))/\(∀ m∈ms,0<=m/\m<=1000000000000)/\ms.length<=1000/\(Gx D=true->Q (.int 1) H)/\(Gx D=false->Q (.int ms.sum) H)
theorem R4 (F:Fu K "fits_rule" K0 f fd)(T:Dy mg)(Ji:Fnd P w K mg base 1 "is_row_of" ["reach"] (Ij K))(Fp:Fnd P w K mg base 1 "reach_turned" ["reach"] (Hh K))(Fh:Fnd P w K mg base 1 "reach_called" ["reach","names"] (Ia K))(L3:Fnd P w K mg base 1 "fits_ask" ["reach","rule","spoken"] (Mn K))(J8:Fnd P w K mg base 2 "fits_ends" ["reach","rule","spoken"] (Hd K))(Gi:Fnd P w K mg base 1 "fits_joined" ["reach","rule","spoken"] (J4 K)):FnOk P w K mg base CX0 3 f fd ["reach","rule","spoken"] (Ik K):=by
 refine F.ok Rp (λvs H Q E h=>?_) (λcdv A outer s H vs Q E U h=>?_)
 . obtain⟨r,v,sl,D,js,ns,ps,as,rs,hs,rfl,_⟩:=h;rfl
 obtain⟨r,v,sl,D,js,ns,ps,as,rs,hs,rfl,hI,hR,hT,hW,hsl,hSp,h1000,k⟩:=h;have hu:=Bh U;have O:=Bg U
 with_reducible refine⟨_,(A2 (Av (A7 (Aq (K:=K) O) (A9 (A4 (K:=K) hu) (pv 1) A3 (by ac_rfl)) Af (Ac _)) (A5 (Aa (An Ji (U.mono ∅) ⋯ (A0 (pv 0) A1)))) Ad)
  (A2 (Av (A7 (Aq (K:=K) O) (A9 (A4 (K:=K) hu) (pv 1) A3 (by ac_rfl)) Af (Ac _)) (A5 (Aa (An L3 (U.mono ∅) ⋯ (A0 (pv 0) (A0 (pv 1) (A0 (pv 2) A1)))))) Ad)
  (A2 (Av (A7 (D3 (K:=K) O) (A9 (A4 (K:=K) hu) (pv 1) A3 (by ac_rfl)) (B0 (A0 Af (A0 Af A1))) ⋯) (A5 (Aa (An J8 (U.mono ∅) ⋯ (A0 (pv 0) (A0 (pv 1) (A0 (pv 2) A1)))))) Ad)
  (A2 (Av (A7 (D3 (K:=K) O) (A9 (A4 (K:=K) hu) (pv 1) A3 (by ac_rfl)) (B0 (A0 Af (A0 Af A1))) ⋯) (A5 (Aa (An Gi (U.mono ∅) ⋯ (A0 (pv 0) (A0 (pv 1) (A0 (pv 2) A1)))))) Ad)
  (A2 (Av (A7 (Aq (K:=K) O) (A9 (A4 (K:=K) hu) (pv 1) A3 (by ac_rfl)) Af (Ac _)) (A5 (Aa (At (N0 O) (pv 0) (An Fp (U.mono ∅) ⋯ (A0 (A9 (A4 (K:=K) hu) (pv 2) A3 (by ac_rfl)) A1)) (Ac _)))) Ad)
  (A5 (Aa (Cm (At (Aq (K:=K) O) (A6 (Ab (K:=K)) ⋯ T.b_len PyProof.Rows.Boot.«len» (A0 (A9 (A4 (K:=K) hu) (pv 1) A3 (by ac_rfl)) A1)) (A6 (Ab (K:=K)) ⋯ T.b_len PyProof.Rows.Boot.«len» (A0 (A9 (A4 (K:=K) hu) (pv 2) A3 (by ac_rfl)) A1)) (Ac _)) (D9 (At (N0 O) (pv 0) (An Fh (U.mono ∅) ⋯ (A0 (A9 (A4 (K:=K) hu) (pv 2) A3 (by ac_rfl)) (A0 (A9 (A4 (K:=K) hu) (pv 1) A3 (by ac_rfl)) A1))) (Ac _))))))))))),?_⟩
 cases hR with
 |row=>
   obtain⟨ta,xs,rfl,hS,hL⟩:=Is.tup hI;obtain⟨y0,a0,Z⟩:=IsL.at hL (show [PyData.str "row"][0]? = some (.str "row") from rfl);simp only[Is] at Z;subst Z;symm;refine Au hS (show atI xs ((0:Nat):Int)=_ from Ag a0) ?_;symm;refine⟨r,ns,ps,as,rfl,hT,hW,λb H1 k1 hb=>k b H1 k1 (hb.trans ⟨λh=>.inl ⟨rfl,h⟩,λh=>?_⟩)⟩;rcases h with ⟨_,h⟩|⟨w,J,e,_⟩
   . exact h
   simp at e
 |ends w hw js hl=>
   obtain⟨ta,xs,rfl,hS,hL⟩:=Is.tup hI;obtain⟨y0,a0,Z⟩:=IsL.at hL (show [PyData.str w,PyData.tuple (js.map PyData.int)][0]? = some (.str w) from rfl);simp only[Is] at Z;subst Z;have hd:∀ z:Str,z ≠ "last" -> z ≠ "first" -> ¬ (V.str w=V.str z):=λz h1 h2 h=>by rcases hw with rfl|rfl<;>cases V.str.inj h<;>contradiction
   symm;refine Au hS (show atI xs ((0:Nat):Int)=_ from Ag a0) ?_;symm;refine Gw (λh=>absurd h (hd _ ∅ ∅)) (λ_=>?_);symm;refine Au hS (show atI xs ((0:Nat):Int)=_ from Ag a0) ?_;symm;refine Gw (λh=>absurd h (hd _ ∅ ∅)) (λ_=>?_);symm;refine Au hS (show atI xs ((0:Nat):Int)=_ from Ag a0) ?_;symm;refine B3 (Ak (by simp)) λt1 H1 ht1 Y h1=>?_;symm;refine ai2 (d:=.str w) (ds:=[.str "last",.str "first"]) (by simp only[Is]) (.inr (Is.of_tup (SqT.of h1) (.cons (by simp only[Is]) (.one (by simp only[Is]))))) (by decide +kernel) (by rcases hw with rfl|rfl<;>decide +kernel) (by simp[PyData.depth]) ?_
   rw[show([PyData.str "last",PyData.str "first"].any λe=>PyData.eqv e (.str w))=true by rcases hw with rfl|rfl<;>decide +kernel]
   symm;have hT1:aC1 H1 r ns as (Ck ps):=Za (hT.same Y) λx y=>wayB_iff.symm;refine⟨r,_,sl,w,_,ns,as,Ck ps,rs,hs,rfl,Is.mono Y _ _ hI,hT1,hW.nd,hW.few,Y _ _ hsl,hSp.keep (Y.keep []),h1000,λb H2 k2 hb=>k b H2 ((Y.keep _).trans k2) (hb.trans ⟨λh=>.inr ⟨w,_,rfl,h⟩,λh=>?_⟩)⟩;rcases h with ⟨e,_⟩|⟨w',J,e,h⟩
   . simp at e
   simp only[PyData.tuple.injEq,List.cons.injEq,PyData.str.injEq,and_true] at e;rw[e.1];exact h
theorem Q5 (F:Fu K "number_due" Hz f fd)(T:Dy mg)(Nr:Fnd P w K mg base 1 "choices" ["many","some"] (Oh K)):FnOk P w K mg base CX0 2 f fd ["reach","rule","spoken","numbers"] (Gr K):=by
 refine F.ok Pw (λvs H Q E h=>?_) (λcdv A outer s H vs Q E hr h=>?_)
 . obtain⟨r,v,sv,nl,D,js,ms,rfl,_⟩:=h;rfl
 obtain⟨r,v,sv,nl,D,js,ms,rfl,hI,hR,hnl,hms,hml,k1,k2⟩:=h;have hu:=Bh hr;have hq:=Bg hr
 with_reducible refine⟨_,(A2 (Av (A7 (Aq (K:=K) hq) (A9 (A4 (K:=K) hu) (pv 1) A3 (by ac_rfl)) Af (Ac _)) (A5 (Aa A3)) Ad)
  (A2 (Av (A7 (Aq (K:=K) hq) (A9 (A4 (K:=K) hu) (pv 1) A3 (by ac_rfl)) Af (Ac _)) (A5 (Aa (B1 Cw (A9 (A4 (K:=K) hu) (pv 3) A3 (by ac_rfl)) (A9 (A4 (K:=K) hu) (pv 3) A3 (by ac_rfl))))) Ad)
  (A2 (Av (A7 (Aq (K:=K) hq) (A9 (A4 (K:=K) hu) (pv 1) A3 (by ac_rfl)) Af (Ac _)) (A5 (Aa (B1 Cw (B1 Cw (A9 (A4 (K:=K) hu) (pv 3) A3 (by ac_rfl)) (A9 (A4 (K:=K) hu) (pv 3) A3 (by ac_rfl))) (An Nr (hr.mono ∅) ⋯ (A0 (A6 Ft ⋯ T.b_len PyProof.Rows.Boot.«len» (A0 (pv 0) A1)) (A0 (A6 (Ab (K:=K)) ⋯ T.b_len PyProof.Rows.Boot.«len» (A0 (A9 (A4 (K:=K) hu) (pv 2) A3 (by ac_rfl)) A1)) A1)))))) Ad)
  (A5 (Aa (A6 (Mi (K:=K) ⋯) ⋯ T.b_sum PyProof.Rows.Boot.«sum» (A0 (pv 3) A1))))))),?_⟩
 cases hR with
 |row=>obtain⟨ta,xs,rfl,U,Z⟩:=Is.tup hI;obtain⟨y0,Y,O⟩:=IsL.at Z (show [PyData.str "row"][0]? = some (.str "row") from rfl);simp only[Is] at O;subst O;symm;refine Au U (show atI xs ((0:Nat):Int)=_ from Ag Y) ?_;symm;exact k1 rfl
 |ends w hw js hl=>
   obtain⟨ta,xs,rfl,U,Z⟩:=Is.tup hI;obtain⟨y0,Y,O⟩:=IsL.at Z (show [PyData.str w,PyData.tuple (js.map PyData.int)][0]? = some (.str w) from rfl);simp only[Is] at O;subst O;have hd:∀ z:Str,z ≠ "last" -> z ≠ "first" -> ¬ (V.str w=V.str z):=λz h1 h2 h=>by rcases hw with rfl|rfl<;>cases V.str.inj h<;>contradiction
   symm;refine Au U (show atI xs ((0:Nat):Int)=_ from Ag Y) ?_;symm;refine Gw (λh=>absurd h (hd _ ∅ ∅)) (λ_=>?_);symm;refine Au U (show atI xs ((0:Nat):Int)=_ from Ag Y) ?_;symm;refine Gw (λh=>absurd h (hd _ ∅ ∅)) (λ_=>?_);symm;refine Au U (show atI xs ((0:Nat):Int)=_ from Ag Y) ?_;symm;refine Gw (λh=>absurd h (hd _ ∅ ∅)) (λ_=>?_);symm;refine ap9 (ns:=ms) (.inl (SqL.of hnl)) hms (by omega) ?_;exact k2 rfl
def DkH (D:PyData):Prop:=∃ n w W,Dk n w W D/\n<=60/\w<=1000000/\W<=1000
structure Dn where
 ns:List Str
 ps:List (Str×Str)
 R:PyData
 js:List Int
 n:Int
def rwS (ρ:Dn):PyData:=.tuple [hfD ρ.ns ρ.ps,ρ.R,.int ρ.n]
structure a65 (ρ:Dn):Prop where
 n0:0<=ρ.n
 n1:ρ.n<=1000000000000
 dk:DkH (hfD ρ.ns ρ.ps)
 ta:TaD (hfD ρ.ns ρ.ps)
 w:HalfW ρ.ns ρ.ps
 ru:Ru ρ.R ρ.js
def Ru.few {js:List Int}(h:Ru D js):js.length<=1000:=by cases h with | row=>simp | ends _ _ _ h=>exact h
def atS (ρs:List Dn)(j:Int):Dn:=(ρs[j.toNat]?).getD ⟨[],[],.none,[],0⟩
def hsS (ρs:List Dn)(js:List Int):List (List Str×(Str->Str->Bool)):=js.map λj=>((atS ρs j).ns,Ck (atS ρs j).ps)
def nsS (ρs:List Dn)(js:List Int):List Int:=js.map λj=>(atS ρs j).n
open Classical in
def wdS (ρs:List Dn)(k:Nat)(ρ:Dn):Option Str:=
 if ∃ j∈ρ.js,j<0\/(k:Int)<=j then some "ref" else if ¬ al7 ρ.R ρ.ns ρ.ps (hsS ρs ρ.js) then some "half"
 else if ρ.n≠(if Gx ρ.R=true then 1 else(nsS ρs ρ.js).sum) then some "number" else none
def wdV:Option Str->V
 |none=>.non
 |some z=>.str z
def Ks {j:Int}(F:0<=j)(h:xs[j.toNat]? = some v):atI xs j=some v:=by have:=Ag h;rwa[A2R F] at this
def a31:∀ js:List Int,frzL (js.map PyData.int)=true:=λjs=>Kl _ (λ_=>rfl) js
theorem Ru.frz {js:List Int}(h:Ru D js):L2.frz D=true:=by
 cases h with
 |row=>rfl
 |ends w _ js _=>have:=a31 js;simp only[L2.frz,L2.frzL,this,Bool.and_true]
def a99 {ρ:Dn}(h:a65 ρ):L2.frz (rwS ρ)=true:=by have h1:=h.ru.frz;have h2:=Mz ρ.ns ρ.ps;simp only[rwS,L2.frz,L2.frzL,h1,h2,Bool.and_true]
def am4 {ρs:List Dn}(h:∀ ρ∈ρs,a65 ρ):L2.frz (.tuple (ρs.map rwS))=true:=by
 simp only[L2.frz]
 induction ρs with
 |nil=>rfl
 |cons ρ ρs ih=>simp only[List.map_cons,L2.frzL,a99 (h ρ (by simp)),ih fun ρ F=>h ρ (by simp[F]),Bool.and_true]
def Jn (K:W.Frag):Sp:=λvs H Q _=>∃(F row:V) (r p:Addr) (ρs:List Dn) (k:Nat) (ρ:Dn) (as rs:List Addr),vs=[F,row,.ref r,.ref p]/\Is K H (.tuple (ρs.map rwS)) F/\(∀ ρ∈ρs,a65 ρ)/\ρs[k]? = some ρ/\Is K H (rwS ρ) row/\TabR H r ρ.ns as (Way ρ.ps)/\H p=some (.lst (rs.map V.ref))/\rs.length=k/\SpT H rs ((ρs.take k).map fun ρ=>(ρ.ns,Ck ρ.ps))/\ρs.length<=1000/\∀ H',Keep [r] H H'->Q (wdV (wdS ρs k ρ)) H'
theorem Sz (F:Fu K "word_due" L5 f fd)(T:Dy mg)(Mq:Fnd P w K mg base 4 "is_rule" ["thing","reach"] (Lm K))(Mg:Fnd P w K mg base 1 "refs_of" ["rule"] (L6 K))(Js:Fnd P w K mg base 3 "fits_rule" ["reach","rule","spoken"] (Ik K))(Hw:Fnd P w K mg base 2 "number_due" ["reach","rule","spoken","numbers"] (Gr K)):FnOk P w K mg base CX0 5 f fd ["rows","row","reach","reaches"] (Jn K):=by
 refine F.ok Jo (λvs H Q E h=>?_) (λcdv A outer s H vs Q E hr h=>?_)
 . obtain⟨rv,row,r,p,ρs,k,ρ,as,rs,rfl,_⟩:=h;rfl
 obtain⟨rv,row,r,p,ρs,kk,ρ,as,rs,rfl,hRv,hok,aJ,hI,hT,hp,aN,hSp,h1000,k⟩:=h;have hu:=Bh hr;have hq:=Bg hr;have hρ:=hok ρ (A05 aJ);have hkl:=(A03.mp aJ).1;have aI:=hρ.ru.few
 with_reducible refine⟨_,(A2 (Av (PW.pt (E9 (A7 Zc (pv 2) Fd (Ac _)) (Dj (Bj (B8 (An Mq (hr.mono ∅) ⋯ (A0 (A9 (A4 (K:=K) hu) (pv 1) A3 (by ac_rfl)) (A0 (pv 2) A1)))))))) (A5 (Aa Af)) Ad)
  (A2 (Ai (i:=4) Jo.nd ⋯ (by eq_refl) (An Mg (hr.mono ∅) ⋯ (A0 (A9 (A4 (K:=K) hu) (pv 1) A3 (by ac_rfl)) A1)))
  (A2 (Av (B8 (A6 (My (K:=K) ⋯) ⋯ T.b_any PyProof.Rows.Boot.«any» (A0 (As ["ref"] ["reaches"] [3] ⋯ ⋯ ⋯ (Ao (K:=K) hu (pv 4)) (λ_ _ _ _=>(Ae (i:=0) (by with_unfolding_all (show(["ref","reaches"]:List Str).Nodup;decide +kernel)) ⋯ (by eq_refl))) (Ap ∅) (λ_ _ _ _=>B2) (λ_ _ _ _=>(aw6 (At Ws (pv 0) A3 (Ac _)) (D9 (At an1 (pv 0) (A6 (Ab (K:=K)) ⋯ T.b_len PyProof.Rows.Boot.«len» (A0 (pv 1) A1)) (Ac _)))))) A1))) (A5 (Aa Af)) Ad)
  (A2 (C0 (i:=5) ["ref"] ["reaches"] [3] ⋯ ⋯ ⋯ Jo.nd ⋯ ⋯ (Ao (K:=K) hu (pv 4)) (λ_ _ _ _=>(Ae (i:=0) (by with_unfolding_all (show(["ref","reaches"]:List Str).Nodup;decide +kernel)) ⋯ (by eq_refl))) (Ap ∅) (λ_ _ _ _=>B2) (λ_ _ _ _=>(A9 (A4 (K:=K) hu) (pv 1) (pv 0) (by ac_rfl))))
  (A2 (Av (Bj (B8 (An Js (hr.mono ∅) ⋯ (A0 (pv 2) (A0 (A9 (A4 (K:=K) hu) (pv 1) A3 (by ac_rfl)) (A0 (pv 5) A1)))))) (A5 (Aa Af)) Ad)
  (A2 (Av (A7 (C8 (K:=K) hq) (A9 (A4 (K:=K) hu) (pv 1) A3 (by ac_rfl)) (An Hw (hr.mono ∅) ⋯ (A0 (pv 2) (A0 (A9 (A4 (K:=K) hu) (pv 1) A3 (by ac_rfl)) (A0 (pv 5) (A0 (As ["ref"] ["rows"] [0] ⋯ ⋯ ⋯ (Ao (K:=K) hu (pv 4)) (λ_ _ _ _=>(Ae (i:=0) (by with_unfolding_all (show(["ref","rows"]:List Str).Nodup;decide +kernel)) ⋯ (by eq_refl))) (Ap ∅) (λ_ _ _ _=>B2) (λ_ _ _ _=>(A9 (A4 (K:=K) hu) (A9 (A4 (K:=K) hu) (pv 1) (pv 0) (by ac_rfl)) A3 (by ac_rfl)))) A1))))) (Ac _)) (A5 (Aa Af)) Ad)
  (A5 (Aa Fd)))))))),?_⟩
 obtain⟨ta,zs,rfl,hS,hL⟩:=Is.tup hI;obtain⟨y1,a8,a6⟩:=IsL.at hL (show [hfD ρ.ns ρ.ps,ρ.R,PyData.int ρ.n][1]? = some ρ.R from rfl);obtain⟨y2,hy2,aD⟩:=IsL.at hL (show [hfD ρ.ns ρ.ps,ρ.R,PyData.int ρ.n][2]? = some (.int ρ.n) from rfl);simp only[Is] at aD;subst aD;symm;rw[A0J (by intro z;cases A13 z)];symm;refine Au hS (show atI zs ((1:Nat):Int)=_ from Ag a8) ?_;symm;refine⟨y1,_,ρ.R,ρ.js,rfl,a6,hρ.ru,λH1 e1=>?_⟩;symm;refine Au (e1.seqT hS) (show atI zs ((1:Nat):Int)=_ from Ag a8) ?_;symm;refine⟨y1,ρ.R,ρ.js,rfl,Is.mono e1 _ _ a6,hρ.ru,λq H2 aM e2 h2=>?_⟩;symm;have aA:=e1.trans e2;have aL:H2 p=some (.lst (rs.map V.ref)):=aA _ _ hp;refine Hq (SqL.of h2) ?_;refine Kf (K:=K) (Bc (xs:=ρ.js.map V.int)) ρ.js (by rw[A01]) (λj=>decide (j<0)||decide (((rs.map V.ref).length:Int)<=j)) (by rw[A01];omega) (λH' e=>SqL.of (e _ _ h2)) (λm j xv H3 S O aO e3 aF=>?_) (λq3 H3 hq3 e3 h3=>?_)
 . rw[A06,O] at aO
   cases aO;symm;have hp3:=e3 _ _ aL;refine Gw (λh=>?_) (λh=>?_)
   . have:=aF H3 (.refl _);rw[A0D h,Bool.true_or] at this;exact this
   symm;have:=aF H3 (.refl _);rw[A0H h,A4F] at this;exact this
 symm;refine an8 h3 ?_;symm;have aB:=aA.trans e3
 cases hbad:(ρ.js.map λj=>decide (j<0)||decide (((rs.map V.ref).length:Int)<=j)).any id with
 |true=>
   symm;have:=k H3 (aB.keep _)
   rw[show wdS ρs kk ρ=some ("ref":Str) by unfold wdS;rw[A4R,A2U] at hbad;obtain⟨j,O,hb⟩:=hbad;rw[if_pos ⟨j,O,by simpa[aN] using hb⟩]] at this
   exact this
 |false=>
   rw[A4R,A32] at hbad
   have a4:∀ j∈ρ.js,0<=j/\j<(kk:Int):=λj O=>by have:=hbad j O;simp[aN] at this;omega
   symm;have a9:∀ {U:Hp},Same H3 U->U q=some (.lst (ρ.js.map V.int)):=fun {U} e=>e _ _ (e3 _ _ h2);refine Hq (SqL.of (a9 (.refl _))) ?_;refine Fq (Bc (xs:=ρ.js.map V.int)) (λl i acc U=>Same H3 U/\acc=(ρ.js.take i).map λj=>V.ref (rs.getD j.toNat 0)) (λl U hl e h=>⟨e,rfl⟩) (λl i acc U Y=>SqL.of (a9 Y.1)) (λl i x acc U hl hx hi a3 a0 Y=>?_) (λl acc U hl a0 a3 Y=>?_)
   . obtain⟨e4,rfl⟩:=Y;rw[A06] at hx;obtain⟨j,O,rfl⟩:=A0Z.mp hx;obtain⟨j0,j1⟩:=a4 j (A05 O);have a7:=A00 (show j.toNat<rs.length by omega);symm;refine Fv (e4 _ _ (e3 _ _ aL)) (show atI (rs.map V.ref) j=some (.ref (rs.getD j.toNat 0)) from ?_) ?_
     . exact Ks j0 (by rw[A06,A2C,a7];rfl)
     refine J3 (by rw[A01];omega) hi a3 a0 λH5 e5 h5=>⟨?_,?_⟩
     . exact λb o h=>e5 b o (ne_of_none h hl) (e4 _ _ h)
     rw[A0U,O,A0R];rfl
   obtain⟨e4,rfl⟩:=Y;rw[A01,A14] at a0;have a0:U l=some (.lst ((ρ.js.map λj=>rs.getD j.toNat 0).map V.ref)):=by rw[a0,A1H];rfl
   have a2:=aB.trans e4
   have hSp4:SpT U (ρ.js.map λj=>rs.getD j.toNat 0) (hsS ρs ρ.js):=by
    refine⟨by unfold hsS;rw[List.length_map,List.length_map],λi a e ha he=>?_⟩;unfold hsS at he;rw[A06] at ha he;obtain⟨j,O,rfl⟩:=A0Z.mp ha;rw[O] at he
    cases he;obtain⟨j0,j1⟩:=a4 j (A05 O);have a7:=A00 (show j.toNat<rs.length by omega);have a1:=A00 (show j.toNat<ρs.length by omega);have:=hSp.2 j.toNat _ ((atS ρs j).ns,Ck (atS ρs j).ps) a7 (by rw[List.getElem?_map,List.getElem?_take_of_lt (by omega),a1];unfold atS;rw[a1];rfl);obtain⟨h1,h2,as',h3⟩:=this;refine⟨h1,h2,as',?_⟩;rw[A2C,a7];exact h3.same a2
   symm;refine Au (a2.seqT hS) (show atI zs ((1:Nat):Int)=_ from Ag a8) ?_;symm;refine ⟨r,y1,l,ρ.R,ρ.js,ρ.ns,ρ.ps,as,_,_,rfl,Is.mono a2 _ _ a6,hρ.ru,hT.same a2,hρ.w,a0,hSp4,by rw[A01];exact aI,λb H5 k5 hb=>?_⟩;have a5:Keep [r] H H5:=(a2.keep _).trans k5;have aK:¬ ∃ j∈ρ.js,j<0\/(kk:Int)<=j:=λ⟨j,O,h⟩=>by have:=a4 j O;omega
   cases b with
   |false=>symm;have:=k H5 a5;rw[show wdS ρs kk ρ=some ("half":Str) by unfold wdS;rw[if_neg aK,if_pos λh=>by have:=hb.mpr h;cases this]] at this;exact this
   |true=>
     have hfit:=hb.mp rfl;symm;have aG:=a5.fz.seq hS;have hRv5:=Is.fz a5.fz _ _ (am4 hok) hRv;obtain⟨ra,rx,rfl,hSr,hLr⟩:=Is.tup hRv5
     have hqn:q≠r:=λz=>by rw[z] at aM;rcases hT.top with g|⟨_,g⟩<;>(have:=e1 _ _ g;rw[aM] at this;cases this)
     have aC:H5 q=some (.lst (ρ.js.map V.int)):=k5.1 q _ (λh=>hqn (A0Q.mp h)) (a9 e4);refine Au aG (show atI zs ((2:Nat):Int)=_ from Ag hy2) ?_;symm;refine Au aG (show atI zs ((1:Nat):Int)=_ from Ag a8) ?_;symm;refine Hq (SqL.of aC) ?_;refine Fq (Bc (xs:=ρ.js.map V.int)) (λl i acc Z=>Same H5 Z/\acc=(nsS ρs (ρ.js.take i)).map V.int) (λl Z hl e h=>⟨e,rfl⟩) (λl i acc Z Y=>SqL.of (Y.1 _ _ aC)) (λl i x acc Z hl hx hi a3 a0 Y=>?_) (λl6 acc Z hl6 aH a3 Y=>?_)
     . obtain⟨e6,rfl⟩:=Y;rw[A06] at hx;obtain⟨j,O,rfl⟩:=A0Z.mp hx;obtain⟨j0,j1⟩:=a4 j (A05 O);have a1:=A00 (show j.toNat<ρs.length by omega);obtain⟨xj,hxj,hIj⟩:=IsL.at (IsL.mono e6 _ _ hLr) (show(ρs.map rwS)[j.toNat]? = some (rwS (atS ρs j)) by rw[List.getElem?_map,a1];unfold atS;rw[a1];rfl);obtain⟨ja,jz,rfl,hSj,hLj⟩:=Is.tup hIj;obtain⟨yj,hyj,aE⟩:=IsL.at hLj (show [hfD (atS ρs j).ns (atS ρs j).ps,(atS ρs j).R,PyData.int (atS ρs j).n][2]? = some (.int (atS ρs j).n) from rfl);simp only[Is] at aE;subst aE;symm;refine Au (e6.seqT hSr) (Ks j0 hxj) ?_;symm;refine Au hSj (show atI jz ((2:Nat):Int)=_ from Ag hyj) ?_;refine J3 (by rw[A01];omega) hi a3 a0 λH7 e7 h7=>⟨?_,?_⟩
       . exact λb o h=>e7 b o (ne_of_none h hl) (e6 _ _ h)
       unfold nsS;rw[A0U,O,A0R,A0R];rfl
     obtain⟨e6,rfl⟩:=Y;rw[A01,A14] at aH;have k16:=a5.trans (e6.keep [r])
     have hms:∀ m∈nsS ρs ρ.js,0<=m/\m<=1000000000000:=λm hm=>by unfold nsS at hm;obtain⟨j,O,rfl⟩:=A0A.mp hm;obtain⟨j0,j1⟩:=a4 j O;have a1:=A00 (show j.toNat<ρs.length by omega);have:=hok _ (A05 a1);unfold atS;rw[a1];exact⟨this.n0,this.n1⟩
     have hI6:Is K Z ρ.R y1:=Is.fz (a5.fz.trans e6.fz) _ _ hρ.ru.frz a6
     have fin:∀ d:Int,(if Gx ρ.R=true then 1 else(nsS ρs ρ.js).sum)=d->wdS ρs kk ρ=if ρ.n≠d then some ("number":Str) else none:=λd hd=>by unfold wdS;rw[A0J aK,A0J (λh=>h hfit),hd]
     symm
     have go:∀ d:Int,(if Gx ρ.R=true then 1 else(nsS ρs ρ.js).sum)=d->Q (wdV (if ρ.n≠d then some ("number":Str) else none)) Z:=λd hd=>by have:=k Z k16;rw[fin d hd] at this;exact this
     refine⟨_,y1,_,l6,ρ.R,ρ.js,nsS ρs ρ.js,rfl,hI6,hρ.ru,aH,hms,by unfold nsS;rw[List.length_map];exact aI,λh=>?_,λh=>?_⟩
     . have:=go 1 (by rw[A0K h]);symm;refine M0 (λh'=>?_) (λh'=>?_)
       . symm;rw[A0K (λz=>h' (congrArg V.int z))] at this;exact this
       symm;rw[A0J (λz=>z (V.int.inj h'))] at this;exact this
     have:=go _ (by rw[A0J (by rw[h];exact A0C)]);symm;refine M0 (λh'=>?_) (λh'=>?_)
     . symm;rw[A0K (λz=>h' (congrArg V.int z))] at this;exact this
     symm;rw[A0J (λz=>z (V.int.inj h'))] at this;exact this
def a74 {t:TT}{ta tb:TE}{σ:L2.St}(k:t σ H λc H1=>if c=true then ta σ H1 Q else tb σ H1 Q):tIf t ta tb σ H Q:=k
def FlS (ρs:List Dn):Option (Str×Nat)->Prop
 |none=>∀ i ρ,ρs[i]? = some ρ->wdS ρs i ρ=none
 |some (w,j)=>(∃ ρ,ρs[j]? = some ρ/\wdS ρs j ρ=some w)/\∀ i ρ,i<j->ρs[i]? = some ρ->wdS ρs i ρ=none
def flD:Option (Str×Nat)->PyData
 |none=>.none
 |some (w,j)=>.tuple [.str w,.int (j:Int)]
def FlS.at {ρs:List Dn}{o:Option (Str×Nat)}(h:FlS ρs o){i:Nat}{ρ:Dn}(F:ρs[i]? = some ρ)(hi:∀ w j,o=some (w,j)->i<=j):(wdS ρs i ρ=none/\∀ w j,o=some (w,j)->i+1<=j)\/∃ w,o=some (w,i)/\wdS ρs i ρ=some w:=by
 cases o with
 |none=>exact .inl ⟨h i ρ F,λw j e=>by cases e⟩
 |some q=>
   obtain⟨w,j⟩:=q;obtain⟨⟨U,h1,h2⟩,O⟩:=h;have:=hi w j rfl;rcases A3C i j with g|g
   . exact .inl ⟨O i ρ g F,λZ Y e=>by cases e;omega⟩
   obtain rfl:i=j:=by omega
   rw[h1] at F
   cases F;exact .inr ⟨w,rfl,h2⟩
def a95 (F:H p=some (.lst xs))(e:ExtBut p H H')(h:Rd H a (.dK kvs)):Rd H' a (.dK kvs):=by
 rcases h with g|⟨o,g⟩
 . exact .inl (e _ _ (ne_of g F (by intro z;cases z)) g)
 exact .inr ⟨o,e _ _ (ne_of g F (by intro z;cases z)) g⟩
def a03 {ns:List Str}{R:Str->Str->Prop}(F:H p=some (.lst xs))(e:ExtBut p H H')(h:TabR H r ns as R):TabR H' r ns as R:=⟨h.len,a95 F e h.top,λi z a hz ha=>let ⟨ks,h1,h2⟩:=h.row i z a hz ha;⟨ks,a95 F e h1,h2⟩⟩
def Er (K:W.Frag):Sp:=λvs H Q _=>∃ v ρs o,vs=[v]/\Is K H (.tuple (ρs.map rwS)) v/\(∀ ρ∈ρs,a65 ρ)/\ρs.length<=1000/\FlS ρs o/\∀ u H',Same H H'->Is K H' (flD o) u->Q u H'
theorem Pr (F:Fu K "rows_fault" Ih f fd)(T:Dy mg)(Kz:Fnd P w K mg base 6 "reach_of" ["thing"] (K5 K))(Fn:Fnd P w K mg base 2 "is_row_frame" ["thing"] (F1 K))(La:Fnd P w K mg base 5 "word_due" ["rows","row","reach","reaches"] (Jn K)):FnOk P w K mg base CX0 7 f fd ["rows"] (Er K):=by
 refine F.ok Cn (λvs H Q E h=>?_) (λcdv A outer s H vs Q E hr h=>?_)
 . obtain⟨v,ρs,o,rfl,_⟩:=h;rfl
 obtain⟨v,ρs,o,rfl,hI,hok,hlen,hF,k⟩:=h;have hu:=Bh hr;have hq:=Bg hr;obtain⟨va,xs,rfl,hS,hX⟩:=hI.tup;have hxl:=IsL.length hX;rw[A01] at hxl
 with_reducible refine⟨_,(A2 (Ai (i:=1) Cn.nd ⋯ (by eq_refl) (Bm A1))
  (A2 (E4 A18 ⋯ (Xg (K:=K) ⋯ T.b_enumerate (A0 (pv 0) A1)) (Lc (K:=K) (n:=2) ⋯ (Ce (Ae (i:=2) Cn.nd ⋯ (by eq_refl)) (Ce (Ae (i:=3) Cn.nd ⋯ (by eq_refl)) Jw)))
  (A2 (Ai (i:=4) Cn.nd ⋯ (by eq_refl) (Kn (B8 (An Fn (hr.mono ∅) ⋯ (A0 (pv 3) A1))) (An Kz (hr.mono ∅) ⋯ (A0 (A9 (A4 (K:=K) hu) (pv 3) A3 (by ac_rfl)) A1)) Fd))
  (A2 (Ai (i:=5) Cn.nd ⋯ (by eq_refl) (An La (hr.mono ∅) ⋯ (A0 (pv 0) (A0 (pv 3) (A0 (pv 4) (A0 (pv 1) A1))))))
  (A2 (Av (A7 N7 (pv 5) Fd (Ac _)) (A5 (Aa (B0 (A0 (pv 5) (A0 (pv 2) A1))))) Ad)
  (A5 (Do (Ig (K:=K) A1A A2M A2N (mm G3) (pv 1) (A0 (pv 4) A1))))))))
  (A5 (Aa Fd)))),?_⟩
 symm;refine Br (Ak (by simp)) λp H1 hp e1 h1=>?_;symm;refine Ud (e1.seqT hS) (λi σ H2=>∃ x1 x2 x3 x4 rs,σ=[some (.ref va),some (.ref p),x1,x2,x3,x4]/\Same H H2/\H2 p=some (.lst (rs.map V.ref))/\rs.length=i/\SpT H2 rs ((ρs.take i).map fun ρ=>(ρ.ns,Ck ρ.ps))/\∀ w j,o=some (w,j)->i<=j) ⟨_,_,_,_,[],rfl,e1,h1,rfl,⟨rfl,λi a e ha=>by cases ha⟩,λ_ _ _=>A1W _⟩ (λi σ' H' Z=>?_) (λi x σ' H' H2 hx Z e2=>?_) (fun σ' H2 Z=>?_)
 . obtain⟨_,_,_,_,_,_,e,_⟩:=Z;exact e.seqT hS
 . obtain⟨x1,x2,x3,x4,rs,rfl,e0,h0,a4,a2,hj⟩:=Z;have a0:=e0.trans e2;have h2:=e2 _ _ h0;obtain⟨D,hD,a1⟩:=IsL.get (IsL.mono a0 _ _ hX) hx;rw[A06] at hD;obtain⟨ρ,hρ,rfl⟩:=A0Z.mp hD;have hat:=hF.at hρ hj;have hil:i<ρs.length:=(A03.mp hρ).1;have O:=hok ρ (A05 hρ);obtain⟨m,w,W,hDk,hm,hw,hWw⟩:=O.dk;obtain⟨ta,zs,rfl,hSx,hL⟩:=Is.tup a1;obtain⟨y0,hy0,hI0⟩:=IsL.at hL (show [hfD ρ.ns ρ.ps,ρ.R,PyData.int ρ.n][0]? = some (hfD ρ.ns ρ.ps) from rfl);symm;refine a74 ?_;symm;refine⟨_,_,rfl,a1,?_⟩;refine⟨_,rfl,?_⟩;rw[A0K (show aA9 (rwS ρ)=true from A0D O.n0)];symm;refine Au hSx (show atI zs ((0:Nat):Int)=_ from Ag hy0) ?_;symm;refine⟨y0,_,m,w,W,rfl,hI0,hDk,hm,hw,hWw,λa3=>absurd O.ta a3,λ_=>⟨ρ.ns,ρ.ps,rfl,O.w,λr as H3 hr3 has3 U hT=>?_⟩⟩;have h3:=U _ _ h2;symm;refine⟨_,_,r,p,ρs,i,ρ,as,rs,rfl,Is.mono (a0.trans U) _ _ hI,hok,hρ,Is.mono U _ _ a1,hT,h3,a4,(a2.keep (e2.keep [])).keep (U.keep []),hlen,λH4 k4=>?_⟩;have e4:Same H2 H4:=λb o hb=>k4.1 b o (λz=>by rw[A0Q.mp z,hr3] at hb;cases hb) (U _ _ hb);have h4:=e4 _ _ h2;rcases hat with ⟨a3,hj'⟩|⟨w',ho,hsome⟩
   . rw[a3];symm;rw[if_neg (show ¬ (!decide (wdV none=V.non))=true by simp[wdV])];symm;refine Uv h4 (by rw[A01];omega) λH5 Y h5=>?_;symm;refine⟨_,_,_,_,rs++[r],rfl,(a0.trans e4).off hp Y,by rw[h5,A0R];rfl,by rw[A08,A1C,a4],?_,hj'⟩;have hSp4:=a2.keep ((e2.trans e4).keep []);refine⟨by rw[A08,A01,A0S,A1C];omega,λj a e ha he=>?_⟩;rcases A3C j rs.length with g|g
     . rw[A1B g] at ha;rw[A0U,A0R,A1B (by rw[A01,A0S];omega)] at he;obtain⟨q1,q2,as',q3⟩:=hSp4.2 j a e ha he;exact⟨q1,q2,as',a03 h4 Y q3⟩
     rw[A17 g] at ha
     have hj0:j-rs.length=0:=by have:=(A03.mp ha).1;simp at this;omega
     rw[hj0] at ha
     cases ha;rw[A0U,A0R,A17 (by rw[A01,A0S];omega),A01,A0S,show j-min i ρs.length=0 by omega,hρ] at he
     cases he;exact⟨O.w.nd,O.w.few,as,a03 h4 Y (Za (hT.keep k4) λx y=>wayB_iff.symm)⟩
   rw[hsome];symm;rw[if_pos (show(!decide (wdV (some w')=V.non))=true by simp[wdV])];symm;refine B3 (Ak (by simp)) λt H5 ht5 Y h5=>?_;symm;refine k _ H5 ((a0.trans e4).trans Y) ?_;rw[ho];exact Is.of_tup (SqT.of h5) (.cons (by simp only[Is];rfl) (.one (by simp only[Is])))
 obtain⟨x1,x2,x3,x4,rs,rfl,e0,h0,a4,a2,hj⟩:=Z;symm;refine k _ H2 e0 ?_
 cases o with
 |none=>simp only[flD,Is]
 |some q=>obtain⟨w,j⟩:=q;obtain⟨⟨D,h,_⟩,_⟩:=hF;have:=hj w j rfl;have:=(A03.mp h).1;omega
local macro_rules | `(tactic| walk_at "rq1") => L2.mAlts "i_sRaise"
def tlW (len:Nat)(o:Option (Str×Nat))(al:Bool):Option (Str×Int):=
 if len<1 then some ("shape",-1) else match o with
  |some (w,j)=>some (w,(j:Int))
  |none=>if al=true then none else some ("last",(len:Int)-1)
def Uj {len:Nat}{w:Str}{j:Nat}{al:Bool}(h:¬ len<1):tlW len (some (w,j)) al=some (w,(j:Int)):=by unfold tlW;rw[A0J h]
def Vd {len:Nat}(h:¬ len<1):tlW len none false=some (("last":Str),(len:Int)-1):=by unfold tlW;rw[A0J h];rfl
def an3 {len:Nat}(h:¬ len<1):tlW len none true=none:=by unfold tlW;rw[A0J h];rfl
def al6 {ys:List V}(h:ys[ys.length-1]? = some v):atI ys (-1)=some v:=by
 have hi:=(A03.mp h).1;unfold atI
 have e:ixN ys.length (-1)=some (ys.length-1):=by unfold ixN;rw[A0J (by omega),A0K (by omega)];congr 1;omega
 rw[e,Option.bind_some,h]
def AlS (ρ:Dn)(ns:List Str)(ps:List (Str×Str)):Prop:=(∀ z,z∈ρ.ns↔z∈ns)/\∀ z∈ρ.ns,∀ y,Way ρ.ps z y↔Way ps z y
def Fo (C:Addr)(K:W.Frag):Sp:=λvs H Q E=>∃ hv v ns ps ρs o al n,vs=[hv,v]/\Is K H (hfD ns ps) hv/\HalfW ns ps/\Is K H (.tuple (ρs.map rwS)) v/\(∀ ρ∈ρs,a65 ρ)/\ρs.length<=1000/\FlS ρs o/\(∀ ρ,ρs[ρs.length-1]? = some ρ->ρ.n=n/\(al=true↔AlS ρ ns ps))/\(tlW ρs.length o al=none->∀ H',Same H H'->Q (.int n) H')/\∀ w j a H',tlW ρs.length o al=some (w,j)->Same H H'->ExB false H' a C [("word",.str w),("row",.int j)]->E (.ref a) none H'
theorem O2 (F:Fu K "lets_count" I0 f fd)(T:Dy mg)(x_HalfError:Et K mg C_HalfError C_HalfError)(x_NoName:Xo K mg "NoName" C_NoName C_HalfError)(a6:Gb K mg C_NoPaper C_HalfError)(Tt:Fnd P w K mg base 2 "alike" ["one","other"] (Q4 K))(D6:Fnd P w K mg base 7 "rows_fault" ["rows"] (Er K))(Ct:Mkx P w K mg base 1 C_NoPaper "NoPaper" ["self","word","row"] (spX C_NoPaper ["word","row"])):FnOk P w K mg base (CX1 P w) 8 f fd ["half","paper"] (Fo C_NoPaper K):=by
 refine F.ok1 Ki (λvs H Q E h=>?_) (λcdv A outer s H vs Q E Z h=>?_)
 . obtain⟨hv,v,ns,ps,ρs,o,al,n,rfl,_⟩:=h;rfl
 obtain⟨hv,v,ns,ps,ρs,o,al,n,rfl,hI,hW,hD,hok,hlen,hF,hA,kq,ke⟩:=h;have hu:=Bh Z;have hq:=Bg Z;obtain⟨va,xs,rfl,hS,hX⟩:=hD.tup;have hxl:=IsL.length hX;have a3:∀ {w:Str} {j:Int} {H1:Hp},tlW ρs.length o al=some (w,j)->Same H H1->∀ a H2 H3,H1 a=none->Same H1 H2->ExB false H3 a C_NoPaper [("word",.str w),("row",.int j)]->(∀ b o,b≠a->H2 b=some o->H3 b=some o)->E (.ref a) none H3:=fun {w j H1} hw O a H2 H3 ha e2 Y kp=>ke w j a H3 hw (O.trans λb o q=>kp b o (ne_of_none q ha) (e2 _ _ q)) Y
 with_reducible refine⟨_,(A2 (Av (PW.pt (E9 (Bj (B8 (A6 (Al (K:=K)) ⋯ T.b_isinstance PyProof.Rows.Boot.«isinstance» (A0 (pv 1) (A0 (B9 (v:=.ty "tuple") ⋯ T.b_tuple PyProof.Rows.Boot.«tuple» ⋯) A1))))) (E9 (A7 Ws (A6 (Ab (K:=K)) ⋯ T.b_len PyProof.Rows.Boot.«len» (A0 (pv 1) A1)) A3 (Ac _)) (Dj (A7 Vs (A6 (Ab (K:=K)) ⋯ T.b_len PyProof.Rows.Boot.«len» (A0 (pv 1) A1)) (Kv ⋯ T.g_MOST_ROWS) (Ac _)))))) (A5 (Pc ⋯ (Zh Ct (Z.mono ∅) ⋯ (A0 Af (A0 (Wm Ol A3) A1))))) Ad)
  (A2 (Ai (i:=2) Ki.nd ⋯ (by eq_refl) (An D6 (Z.mono ∅) ⋯ (A0 (pv 1) A1)))
  (A2 (Av (A7 N7 (pv 2) Fd (Ac _)) (A5 (Pc ⋯ (Zh Ct (Z.mono ∅) ⋯ (A0 (A9 (A4 (K:=K) hu) (pv 2) A3 (by ac_rfl)) (A0 (A9 (A4 (K:=K) hu) (pv 2) A3 (by ac_rfl)) A1))))) Ad)
  (A2 (Av (Bj (B8 (An Tt (Z.mono ∅) ⋯ (A0 (A9 (A4 (K:=K) hu) (A9 (A4 (K:=K) hu) (pv 1) (Wm Ol A3) (by ac_rfl)) A3 (by ac_rfl)) (A0 (pv 0) A1))))) (A5 (Pc ⋯ (Zh Ct (Z.mono ∅) ⋯ (A0 Af (A0 (B1 Np (A6 (Ab (K:=K)) ⋯ T.b_len PyProof.Rows.Boot.«len» (A0 (pv 1) A1)) A3) A1))))) Ad)
  (A5 (Aa (A9 (A4 (K:=K) hu) (A9 (A4 (K:=K) hu) (pv 1) (Wm Ol A3) (by ac_rfl)) A3 (by ac_rfl)))))))),?_⟩
 symm;refine Ep hD ⟨_,rfl,?_⟩;rw[A0J (show ¬ ((!Wb (PyData.tuple (ρs.map rwS)))=true) by intro z;cases z)];symm;refine Oq hD ?_;rw[A01];symm;refine Gw (λhc=>?_) (λhc=>?_)
 . symm;refine ak1 (by rfl) ∅ λa H4 U e4 Y=>?_;symm;refine Tp Y a6.xc U λH5 kp a1=>?_;exact a3 (by unfold tlW;rw[if_pos (by omega)]) (.refl H) a H4 H5 U e4 a1 kp
 symm;refine Oq hD ?_;rw[A01];symm;refine Gw (λaD=>absurd aD (by omega)) (λaD=>?_);have a4:¬ ρs.length<1:=by omega
 symm;refine⟨_,ρs,o,rfl,hD,hok,hlen,hF,λu H1 O aF=>?_⟩
 cases o with
 |some q=>obtain⟨w,j⟩:=q;obtain⟨ta,zs,rfl,aC,aA⟩:=Is.tup aF;obtain⟨y0,a5,a2⟩:=IsL.at aA (show [PyData.str w,PyData.int (j:Int)][0]? = some (.str w) from rfl);obtain⟨y1,hy1,a7⟩:=IsL.at aA (show [PyData.str w,PyData.int (j:Int)][1]? = some (.int j) from rfl);simp only[Is] at a2 a7;subst a2 a7;symm;rw[if_pos (show(!decide (V.ref ta=V.non))=true by simp)];symm;refine Au aC (show atI zs ((0:Nat):Int)=_ from Ag a5) ?_;symm;refine Au aC (show atI zs ((1:Nat):Int)=_ from Ag hy1) ?_;symm;refine ak1 (by rfl) ∅ λa H4 U e4 Y=>?_;symm;refine Tp Y a6.xc (O.free U) λH5 kp a1=>?_;exact a3 (Uj a4) O a H4 H5 U e4 a1 kp
 |none=>
   obtain⟨ρ,hρ⟩:∃ ρ,ρs[ρs.length-1]? = some ρ:=⟨_,A00 (by omega)⟩;obtain⟨rfl,hal⟩:=hA ρ hρ;have hR:=hok ρ (A05 hρ);obtain rfl:u = .non:=by simpa only[flD,Is] using aF
   obtain⟨rv,hrv,hIr⟩:=IsL.at (IsL.mono O _ _ hX) (show(ρs.map rwS)[ρs.length-1]? = some (rwS ρ) by rw[A06,hρ];rfl);obtain⟨ta,zs,rfl,aB,a9⟩:=Is.tup hIr;obtain⟨y0,a5,a2⟩:=IsL.at a9 (show [hfD ρ.ns ρ.ps,ρ.R,PyData.int ρ.n][0]? = some (hfD ρ.ns ρ.ps) from rfl);obtain⟨y2,hy2,a8⟩:=IsL.at a9 (show [hfD ρ.ns ρ.ps,ρ.R,PyData.int ρ.n][2]? = some (.int ρ.n) from rfl);simp only[Is] at a8;subst a8;have aE:=al6 (ys:=xs) (v:=.ref ta) (by rw[<- hxl,A01];exact hrv);symm;refine Au (O.seqT hS) aE ?_;symm;refine Au aB (show atI zs ((0:Nat):Int)=_ from Ag a5) ?_;symm;refine⟨y0,hv,ρ.ns,ρ.ps,ns,ps,rfl,a2,hR.w,Is.mono O _ _ hI,hW,λb H2 hb e2=>?_⟩;have a0:=O.trans e2
   obtain rfl:b=al:=by rw[A15,hb,hal];rfl
   cases b with
   |false=>symm;refine Oq (Is.mono a0 _ _ hD) ?_;rw[A01];symm;refine ak1 (by rfl) ∅ λa H4 U e4 Y=>?_;symm;refine Tp Y a6.xc (a0.free U) λH5 kp a1=>?_;exact a3 (Vd a4) a0 a H4 H5 U e4 a1 kp
   |true=>symm;refine Au (a0.seqT hS) aE ?_;symm;refine Au (e2.seqT aB) (show atI zs ((2:Nat):Int)=_ from Ag hy2) ?_;symm;exact kq (an3 a4) H2 a0
local macro_rules | `(tactic| walk_at "rq1") => L2.mAlts "i_nxS"
def aA2 (hm:Nz K C B=true):W.mroIn K C (.ref B)=some true:=by obtain⟨cd,F,O⟩:=W.any_some hm;unfold W.mroIn;rw[F,Option.bind_some,beq_iff_eq.mp O,if_neg (by simp),List.contains_cons,List.contains_cons,beq_self_eq_true,Bool.true_or,Bool.or_true]
def Pb {D:Addr}(c:XC K C)(hm:Nz K C B=true)(d:XC K D)(h1:C≠D)(h2:D≠B):W.kitOne K (.ref C) (.ref D)=some false:=by rw[Xm c hm d,A11.mpr h1,A11.mpr h2];rfl
def an7 (c:XC K C)(hm:Nz K C B=true):W.kitOne K (.ref C) (.ref C)=some true:=by rw[Xm c hm c,A4G,Bool.true_or]
def az3 {f:Str×V}{fs:List (Str×V)}(h:ExB false H a C (f :: fs)):∃ dx,H a=some (exG false a C (some dx)):=by
 rcases h with ⟨e,_⟩|⟨dx,_,h1,_⟩
 . cases e
 exact⟨dx,h1⟩
def an0 (h:SqL K H a ([false,false,false,false].map V.bl))(k:Q (.bl true) H):Sq K true (.bl true) (.ref a) H Q:=ar7 h k
def len5 {σ:L2.St}(h:σ.length=5):∃ a b c d e,σ=[a,b,c,d,e]:=by
 match σ,h with
 | [a,b,c,d,e],_=>exact⟨a,b,c,d,e,rfl⟩
def tlD (n:Int):Option (Str×Int)->PyData
 |none=>.int n
 |some (w,j)=>.tuple [.str w,.int j]
def Hc (K:W.Frag):Sp:=λvs H Q _=>∃ hv v ns ps ρs o al n,vs=[hv,v]/\Is K H (hfD ns ps) hv/\HalfW ns ps/\Is K H (.tuple (ρs.map rwS)) v/\(∀ ρ∈ρs,a65 ρ)/\ρs.length<=1000/\FlS ρs o/\(∀ ρ,ρs[ρs.length-1]? = some ρ->ρ.n=n/\(al=true↔AlS ρ ns ps))/\∀ u H',Same H H'->Is K H' (tlD n (tlW ρs.length o al)) u->Q u H'
theorem Rx (F:Fu K "_law_told" Jj f fd)(T:Dy mg){a0:Addr}{a1:Addr}{Z:Addr}(a3:Et K mg C_HalfError C_HalfError)(a5:Xo K mg "NoHalf" a0 C_HalfError)(a6:Xo K mg "NoName" C_NoName C_HalfError)(O:Gb K mg C_NoPaper C_HalfError)(a7:Xo K mg "NoPlan" a1 C_HalfError)(a4:Xo K mg "NoBound" Z C_HalfError)(U:([C_HalfError,Z,a0,C_NoName,C_NoPaper,a1]:List Addr).Nodup)(Hs:ap3 P w K mg base 8 "lets_count" ["half","paper"] (Fo C_NoPaper K)):FnOk P w K mg base CX0 9 f fd ["_law_half_here","_law_paper"] (Hc K):=by
 refine F.ok Ci (λvs H Q E h=>?_) (λcdv A outer s H vs Q E hr h=>?_)
 . obtain⟨hv,v,ns,ps,ρs,o,al,n,rfl,_⟩:=h;rfl
 obtain⟨hv,v,ns,ps,ρs,o,al,n,rfl,hI,hW,hD,hok,hlen,hF,hA,k⟩:=h;have hu:=Bh hr;have hq:=Bg hr;have m1:C_NoPaper≠a0:=λe=>by subst e;simp at U
 have m2:C_NoPaper≠a1:=λe=>by subst e;simp at U
 have m3:C_NoPaper≠Z:=λe=>by subst e;simp at U
 have m4:C_NoPaper≠C_NoName:=λe=>by subst e;simp at U
 have b1:a0≠C_HalfError:=λe=>by subst e;simp at U
 have b2:a1≠C_HalfError:=λe=>by subst e;simp at U
 have b3:Z≠C_HalfError:=λe=>by subst e;simp at U
 have b4:C_NoName≠C_HalfError:=λe=>by subst e;simp at U
 clear U;obtain⟨xG,hG⟩:∃ G:Addr->Hp->Prop,G=λa H'=>∃ w j,tlW ρs.length o al=some (w,j)/\Same H H'/\ExB false H' a C_NoPaper [("word",.str w),("row",.int j)]:=⟨_,rfl⟩
 with_reducible refine⟨_,(A2 (Ai (i:=2) Ci.nd ⋯ (by eq_refl) Fd)
  (A2 (as7 (i:=3) xG Ci.nd ⋯ ⋯ ⋯ a3.gl a3.xc ⋯ ⋯ ⋯ (λ_ _ hps=>(A5 (Ai (i:=2) Ci.nd ⋯ (by eq_refl) (au5 Hs (hr.mono ∅) ⋯ hps (A0 (pv 0) (A0 (pv 1) A1))))))
  (λ_ _=>(A2 (Ai (i:=4) Ci.nd ⋯ (by eq_refl) (Bm (A0 (A6 (G2 (K:=K)) ⋯ T.b_isinstance PyProof.Rows.Boot.«isinstance» (A0 (pv 3) (A0 (Kv (v:=.ref a0) ⋯ ⟨_,a5.gl,⋯⟩) A1))) (A0 (A6 (G2 (K:=K)) ⋯ T.b_isinstance PyProof.Rows.Boot.«isinstance» (A0 (pv 3) (A0 (Kv (v:=.ref a1) ⋯ ⟨_,a7.gl,⋯⟩) A1))) (A0 (A6 (G2 (K:=K)) ⋯ T.b_isinstance PyProof.Rows.Boot.«isinstance» (A0 (pv 3) (A0 (Kv (v:=.ref Z) ⋯ ⟨_,a4.gl,⋯⟩) A1))) (A0 (A6 (G2 (K:=K)) ⋯ T.b_isinstance PyProof.Rows.Boot.«isinstance» (A0 (pv 3) (A0 (Kv (v:=.ref C_NoName) ⋯ ⟨_,a6.gl,⋯⟩) A1))) A1))))))
  (A2 (Ai (i:=2) Ci.nd ⋯ (by eq_refl) (B0 (A0 Af (A0 A3 A1))))
  (A5 (Av (PW.pt (R7 (B8 (A6 (G2 (K:=K)) ⋯ T.b_isinstance PyProof.Rows.Boot.«isinstance» (A0 (pv 3) (A0 (Kv (v:=.ref C_NoPaper) ⋯ ⟨_,O.gl,⋯⟩) A1)))) (R7 (B8 (A6 (G2 (K:=K)) ⋯ T.b_isinstance PyProof.Rows.Boot.«isinstance» (A0 (pv 3) (A0 (B9 (v:=.ty "ValueError") ⋯ T.b_ValueError PyProof.Rows.Boot.«ValueError» ⋯) A1)))) (Q6 (A7 (Fx (K:=K) (af9 hq)) E6 (pv 4) ⋯))))) (A5 (Ai (i:=2) Ci.nd ⋯ (by eq_refl) (B0 (A0 (Ub (K:=K) (pv 3) ⋯) (A0 (Ub (K:=K) (pv 3) ⋯) A1))))) Ad))))))
  (A5 (Aa (pv 2))))),?_⟩
 symm;refine⟨?_,λa H' σ' hl hg=>?_⟩
 . symm;refine⟨hv,v,ns,ps,ρs,o,al,n,rfl,hI,hW,hD,hok,hlen,hF,hA,λhw H1 e1=>?_,λw j a H1 hw e1 Y=>⟨a,rfl,by rw[hG];exact⟨w,j,hw,e1,Y⟩⟩⟩;symm;exact k _ H1 e1 (by rw[hw];simp only[tlD,Is])
 rw[hG] at hg;obtain⟨w,j,hw,e1,Y⟩:=hg;obtain⟨y0,y1,y2,y3,y4,rfl⟩:=len5 hl;obtain⟨dx,ha⟩:=az3 Y;refine⟨⟨C_NoPaper,some dx,ha,O.xc,aA2 O.mr⟩,?_⟩;symm;refine a13 Y O.xc (Pb O.xc O.mr a5.xc m1 b1) ?_;symm;refine a13 Y O.xc (Pb O.xc O.mr a7.xc m2 b2) ?_;symm;refine a13 Y O.xc (Pb O.xc O.mr a4.xc m3 b3) ?_;symm;refine a13 Y O.xc (Pb O.xc O.mr a6.xc m4 b4) ?_;symm;refine Br (Ak (by simp)) λt H1 ht1 e2 h1=>?_;have hE1:=Y.same e2;have h1:H1 t=some (.lst ([false,false,false,false].map V.bl)):=h1;symm;refine B3 (Ak (by simp)) λt2 H2 ht2 e3 h2=>?_;have a2:=hE1.same e3;symm;refine a13 a2 O.xc (an7 O.xc O.mr) ?_;symm;refine az5 a2 O.xc (am0 O.mr) ?_;symm;refine an0 (SqL.of (e3 _ _ h1)) ?_;symm;refine ab2 a2 O.xc O.n_word (show _=some (V.str w) from rfl) ?_;symm;refine ab2 a2 O.xc O.n_row (show _=some (V.int j) from rfl) ?_;symm;refine B3 (Ak (by simp)) λt3 H3 ht3 e4 h3=>?_;symm;exact k _ H3 (((e1.trans e2).trans e3).trans e4) (by rw[hw];exact Is.of_tup (SqT.of h3) (.cons (by simp only[Is]) (.one (by simp only[Is]))))
def Ii (K:W.Frag):Sp:=λvs H Q _=>∃ d l n,vs=[.ref d,.int n]/\Feed H d l/\0<=n/\n<=9/\∀ v ns ps H',ExtBut d H H'->Feed H' d l->Is K H' (hfD ns ps) v->Half ns ps->ns.length=n.toNat->2*ps.length<=n.toNat*n.toNat+2->Q v H'
def a40 {ps:List (Str×Str)}{p:Str×Str}(n:Nat)(h:IsL K H (ps.map prD) xs)(F:Is K H (prD p) v):IsL K H ((ps.take n++p :: ps.drop n).map prD) (aF0 xs n v):=by rw[A0R,A0P,A3K,List.map_drop];exact(IsL.take n h).append (.cons F (IsL.drop n h))
def Md {ps:List (Str×Str)}(h:IsL K H (ps.map prD) xs):xs.length=ps.length:=by rw[<- IsL.length h,A01]
def ao7 {ls:List Str}{ps:List (Str×Str)}{p:Str×Str}(n:Nat)(h:Up ls ps)(F:Up ls [p]):Up ls (ps.take n++p :: ps.drop n):=by
 intro z hz;rcases A0O.mp hz with hz|hz
 . exact h z (A1Y hz)
 rcases A0G.mp hz with rfl|hz
 . exact F _ (by simp)
 exact h z (A36 hz)
def ai4 (F:0<=u)(h1:u<6):∃ r:Int,atI [V.int 1,V.int 2,V.int 2,V.int 3,V.int 5,V.int 99] u=some (V.int r)/\1<=r/\r<=99:=by
 have:u=0\/u=1\/u=2\/u=3\/u=4\/u=5:=by omega
 rcases this with rfl|rfl|rfl|rfl|rfl|rfl
 . exact⟨1,rfl,by omega,by omega⟩
 . exact⟨2,rfl,by omega,by omega⟩
 . exact⟨2,rfl,by omega,by omega⟩
 . exact⟨3,rfl,by omega,by omega⟩
 . exact⟨5,rfl,by omega,by omega⟩
 exact⟨99,rfl,by omega,by omega⟩
theorem Qy (F:Fu K "_law_half" Jt f fd)(T:Dy mg)(Ah:Fnd P w K mg base 1 "_law_draw" ["_law_feed_here","_law_many"] (Bv K))(B5:Fnd P w K mg base 2 "_law_shuffled" ["_law_feed_here","_law_some"] (C9 K))(Ie:Fnd P w K mg base 3 "_law_names" ["_law_feed_here"] (Gf K)):FnOk P w K mg base CX0 4 f fd ["_law_feed_here","_law_many"] (Ii K):=by
 refine F.ok C2 (λvs H Q E h=>?_) (λcdv A outer s H vs Q E hr h=>?_)
 . obtain⟨d,l,n,rfl,_⟩:=h;rfl
 obtain⟨d,l,n,rfl,hF,h0,a5,k⟩:=h;have hu:=Bh hr;have hq:=Bg hr
 with_reducible refine⟨_,(A2 (Ai (i:=2) C2.nd ⋯ (by eq_refl) (Bl (Q7 (K:=K)) (An Ie (hr.mono ∅) ⋯ (A0 (pv 0) A1)) Dd (Bk (pv 1))))
  (A2 (Ai (i:=3) C2.nd ⋯ (by eq_refl) (An B5 (hr.mono ∅) ⋯ (A0 (pv 0) (A0 (pv 2) A1))))
  (A2 (Ai (i:=4) C2.nd ⋯ (by eq_refl) (A9 (A4 (K:=K) hu) (Bm (A0 A3 (A0 A3 (A0 A3 (A0 A3 (A0 A3 (A0 A3 A1))))))) (An Ah (hr.mono ∅) ⋯ (A0 (pv 0) (A0 A3 A1))) (by ac_rfl)))
  (A2 (Ai (i:=5) C2.nd ⋯ (by eq_refl) (Bm A1))
  (A2 (E4 A18 ⋯ (Cu ⋯ T.b_range (A0 (pv 1) A1)) (Ae (i:=6) C2.nd ⋯ (by eq_refl))
  (A5 (E4 A18 ⋯ (Cu ⋯ T.b_range (A0 (pv 6) A1)) (Ae (i:=7) C2.nd ⋯ (by eq_refl))
  (A5 (Av (A7 (Aq (K:=K) hq) (An Ah (hr.mono ∅) ⋯ (A0 (pv 0) (A0 (pv 4) A1))) A3 (Ac _)) (A5 (Do (Ig (K:=K) A1A PySem.F.slot_list_insert PySem.F.type_list_insert (mm X9) (pv 5) (A0 (An Ah (hr.mono ∅) ⋯ (A0 (pv 0) (A0 (B1 (B7 (K:=K)) (A6 (Ab (K:=K)) ⋯ T.b_len PyProof.Rows.Boot.«len» (A0 (pv 5) A1)) A3) A1))) (A0 (B0 (A0 (A9 (A4 (K:=K) hu) (pv 3) (pv 7) (by ac_rfl)) (A0 (A9 (A4 (K:=K) hu) (pv 3) (pv 6) (by ac_rfl)) A1))) A1))))) Ad)))))
  (A2 (Ai (i:=5) C2.nd ⋯ (by eq_refl) (B1 (B7 (K:=K)) (pv 5) (Bl (Q7 (K:=K)) (pv 5) Dd (Bk (An Ah (hr.mono ∅) ⋯ (A0 (pv 0) (A0 A3 A1)))))))
  (A5 (Aa (B0 (A0 (Bd (Cg (K:=K)) ⋯ T.b_tuple PyProof.Rows.Boot.«tuple» (A0 (pv 2) A1)) (A0 (Bd (Cg (K:=K)) ⋯ T.b_tuple PyProof.Rows.Boot.«tuple» (A0 (pv 5) A1)) A1))))))))))),?_⟩
 symm;refine⟨d,l,rfl,hF,λp1 n1 H1 hp1 e1 hF1 h1 hN1 hl1=>?_⟩;symm;refine R6 (SqL.of h1) λp2 H2 hp2 e2 h2=>?_;rw[Gs h0,<- A3K] at h2;have b4:Names (n1.take n.toNat):=hN1.nm.sublist (List.take_sublist _ _);have b5:(n1.take n.toNat).length=n.toNat:=by rw[A0S];omega
 generalize n1.take n.toNat=ns at h2 b4 b5;have b1:=hF1.same e2;symm;refine⟨d,l,p2,_,rfl,b1,.inl (SqL.of h2),by rw[A01];omega,λp3 ys3 H3 hp3 e3 hF3 h3 hperm=>?_⟩;obtain⟨ls,rfl,b7⟩:=Lp hperm;have hll:=b7.length_eq;have aT:H3 p2=some (.lst (ns.map V.str)):=e3 _ _ (b1.lst h2) h2;symm;refine Br ∅ λq3 H30 hq3 a2 aS=>?_;have a6:=hF3.same a2;symm;refine⟨d,l,_,rfl,a6,by omega,by omega,λway H4 hw0 hw1 e4 b2=>?_⟩;have aV:=e4 _ _ (a6.lst (a2 _ _ aT)) (a2 _ _ aT);have aU:=e4 _ _ (a6.lst (a2 _ _ h3)) (a2 _ _ h3);have h40:=e4 _ _ (a6.lst aS) aS;obtain⟨ra,hra,hr1,hr99⟩:=ai4 hw0 hw1;refine Fv h40 hra ?_;symm;refine Br ∅ λp5 H5 aK e5 h5=>?_;have fr4:ExtBut d H H4:=by walk_at "fr"
 have a7:=b2.same e5;have aX:=e5 _ _ aV;have aW:=e5 _ _ aU;have n5:p2≠p5:=ne_of_none aV aK;have l5:p3≠p5:=ne_of_none aU aK;have hp50:H p5=none:=b2.free fr4 aK;have aL:p5≠d:=a7.lst h5;have aJ:p2≠d:=a7.lst aX;have b6:p3≠d:=a7.lst aW;symm;refine Iy (by omega) ?_
 refine Kp Cb (λi σ U=>∃ xs qs x6 x7,σ=[some (.ref d),some (.int n),some (.ref p2),some (.ref p3),some (.int ra),some (.ref p5),x6,x7]/\ExtBut d H U/\Feed U d l/\U p2=some (.lst (ns.map V.str))/\U p3=some (.lst (ls.map V.str))/\U p5=some (.lst xs)/\IsL K U (qs.map prD) xs/\Up ls qs/\2*qs.length<=i*i)
  ⟨[],[],_,_,rfl,by walk_at "fr",a7,aX,aW,h5,.nil,.nil,by decide⟩ (λ_ _ _ _=>trivial) (λi x σ U hx hi hP=>?_) (fun σ U hP=>?_)
 . obtain⟨xs,qs,x6,x7,rfl,e6,a8,aF,aY,h6,a9,aA,b8⟩:=hP;obtain⟨rfl,hi2⟩:=Fs hx;symm;refine Iy (by omega) ?_
   refine Kp Cb (λj σ O=>∃ ys rs x7,σ=[some (.ref d),some (.int n),some (.ref p2),some (.ref p3),some (.int ra),some (.ref p5),some (.int (0+(i:Int))),x7]/\ExtBut d H O/\Feed O d l/\O p2=some (.lst (ns.map V.str))/\O p3=some (.lst (ls.map V.str))/\O p5=some (.lst ys)/\IsL K O (rs.map prD) ys/\Up ls rs/\2*rs.length<=i*i+2*j)
    ⟨xs,qs,_,rfl,e6,a8,aF,aY,h6,a9,aA,by omega⟩ (λ_ _ _ _=>trivial) (λj x σ O hx7 hj hP=>?_) (fun σ O hP=>?_)
   . obtain⟨ys,rs,x7,rfl,e7,a4,a3,aG,h7,a0,aB,b9⟩:=hP;obtain⟨rfl,hj2⟩:=Fs hx7;have hyl:=Md a0;have hii:i*i<=81:=A48 (show i<=9 by omega) (show i<=9 by omega);symm;refine⟨d,l,_,rfl,a4,by omega,by omega,λb H8 hb0 hb1 Z aI=>?_⟩;have b0:=Z _ _ aJ a3;have aZ:=Z _ _ b6 aG;have h8:=Z _ _ aL h7;have b3:=IsL.fz (a4.fz Z) _ _ (E2 rs) a0;symm;refine Gw (λhb=>?_) (λhb=>?_)
     . symm;refine⟨d,l,_,rfl,aI,by omega,by omega,λu H9 aM hu1 e9 hF9=>?_⟩;have h9n:=e9 _ _ aJ b0;have aH:=e9 _ _ b6 aZ;have h9:=e9 _ _ aL h8;obtain⟨z1,hz1,hz1',_⟩:=str_at? (ls:=ls) (i:=0+(j:Int)) (by omega) (by omega);obtain⟨z2,hz2,hz2',_⟩:=str_at? (ls:=ls) (i:=0+(i:Int)) (by omega) (by omega);symm;refine Fv aH hz1' ?_;symm;refine Fv aH hz2' ?_;symm;refine B3 (Ak (by simp)) λt10 aC ht10 Y a5=>?_;symm;refine aC5 (Y _ _ h9) aM (by omega) (by omega) λaN a1 aE=>?_;have fz9:=aI.fz e9;have aR:Fz aC aN:=a1.fzL (Y _ _ h9)
       have hUp:Up ls [(z1,z2)]:=λp hp=>by
        have:p=(z1,z2):=by simpa using hp
        rw[this];exact⟨(0+(j:Int)).toNat,(0+(i:Int)).toNat,by omega,hz1,hz2⟩
       symm;refine⟨_,_,_,rfl,by walk_at "fr",by walk_at "fd",a1 _ _ n5 (Y _ _ h9n),a1 _ _ l5 (Y _ _ aH),aE,a40 u.toNat (IsL.fz ((fz9.trans Y.fz).trans aR) _ _ (E2 rs) b3) ((am1 (SqT.of a5)).pr_fz aR),ao7 _ aB hUp,?_⟩;rw[A08,A0X,A0S,A1N];omega
     symm;exact⟨ys,rs,_,rfl,e7.trans Z,aI,b0,aZ,h8,b3,aB,by omega⟩
   obtain⟨ys,rs,x7,rfl,e7,a4,a3,aG,h7,a0,aB,b9⟩:=hP;rw[A01,A1S] at b9;refine⟨ys,rs,_,_,rfl,e7,a4,a3,aG,h7,a0,aB,?_⟩;have:(i+1)*(i+1)=i*i+2*i+1:=by simp only[Nat.add_mul,Nat.mul_add];omega
   omega
 obtain⟨xs,qs,x6,x7,rfl,e6,a8,aF,aY,h6,a9,aA,b8⟩:=hP;rw[A01,A1S] at b8;have hxl:=Md a9
 have hq41:qs.length<=41:=by have:n.toNat*n.toNat<=81:=A48 (show n.toNat<=9 by omega) (show n.toNat<=9 by omega);omega
 symm;refine⟨d,l,_,rfl,a8,by omega,by omega,λu O aM hu1 e7 a4=>?_⟩;have a3:=e7 _ _ aJ aF;have h7:=e7 _ _ aL h6;have a0:=IsL.fz (a8.fz e7) _ _ (E2 qs) a9;refine⟨_,rfl,?_⟩;refine R6 (SqL.of h7) λp8 H8 hp8 Z h8=>?_;rw[Gs aM] at h8;have hl8:(xs.take u.toNat).length<=1:=by rw[A0S];omega
 refine Ly (Z _ _ h7) h8 (Ak (by omega)) λp9 H9 hp9 e9 h9=>?_;symm;have aP:=Z.trans e9;refine Fb (SqL.of (aP _ _ a3)) λt10 aC ht10 Y a5=>?_;symm;refine Fb (SqL.of (Y _ _ h9)) λt11 aN ht11 a1 aE=>?_;symm;refine B3 (Ak (by simp)) λt12 aD ht12 aO h12=>?_;have aQ:Same aC aD:=a1.trans aO
 have hI12:IsL K aD ((qs++qs.take u.toNat).map prD) (xs++xs.take u.toNat):=by rw[A0R,A3K];have:=IsL.mono ((aP.trans Y).trans aQ) _ _ a0;exact IsL.append this (IsL.take _ this)
 refine k (.ref t12) ns (qs++qs.take u.toNat) aD (by walk_at "fr") (by walk_at "fd") (a46 (SqT.of h12) ((Z7 (SqT.of a5)).nm_fz aQ.fz) (Is.of_tup (SqT.of (aO _ _ aE)) hI12)) (a34 b4 (by omega) b7 (λz hz=>?_) (by rw[A08,A0S];omega)) b5 (by rw[A08,A0S];omega);rcases A0O.mp hz with hz|hz
 . exact aA z hz
 exact aA z (A1Y hz)
def E5 (K:W.Frag):Sp:=λvs H Q _=>∃ v ns ps,vs=[v]/\Is K H (hfD ns ps) v/\HalfW ns ps/\ns.length<=10/\(∀ z∈ns,PyData.strOk z=true)/\∀ r as H',H r=none->Same H H'->TabL K H' r ns as (Way ps)->Q (.ref r) H'
theorem Sm (F:Fu K "_law_over" Jb f fd)(T:Dy mg):FnOk P w K mg base CX0 1 f fd ["_law_half_here"] (E5 K):=by
 refine F.ok C1 (λvs H Q E h=>?_) (λcdv A outer s H vs Q E hr h=>?_)
 . obtain⟨v,ns,ps,rfl,_⟩:=h;rfl
 obtain⟨v,ns,ps,rfl,hI,hW,aP,aX,k⟩:=h;have hu:=Bh hr;have hq:=Bg hr;have hn:=hW.nd;have hm:=hW.mem
 with_reducible refine⟨_,(A2 (Ai (i:=1) C1.nd ⋯ (by with_unfolding_all exact A35 rfl) (Bd (Iq (K:=K) hr.hd) ⋯ T.b_dict PyProof.Rows.Boot.«dict» (A0 (As ["_law_name"] [] [] ⋯ ⋯ ⋯ (Ao (K:=K) hu (A9 (A4 (K:=K) hu) (pv 0) A3 (by ac_rfl))) (λ_ _ _ _=>(Ae (i:=0) (by with_unfolding_all (show(["_law_name"]:List Str).Nodup;decide +kernel)) ⋯ (by eq_refl))) (Ap ∅) (λ_ _ _ _=>B2) (λ_ _ _ _=>(B0 (A0 (pv 0) (A0 (Bm A1) A1))))) A1)))
  (A2 (Ai (i:=2) C1.nd ⋯ (by eq_refl) E6)
  (A2 (a51 A18 (B8 (pv 2))
  (A2 (Ai (i:=2) C1.nd ⋯ (by eq_refl) E6)
  (A5 (E4 A18 ⋯ (Ao (K:=K) hu (A9 (A4 (K:=K) hu) (pv 0) A3 (by ac_rfl))) (Lc (K:=K) (n:=2) ⋯ (Ce (Ae (i:=3) C1.nd ⋯ (by with_unfolding_all exact A35 rfl)) (Ce (Ae (i:=4) C1.nd ⋯ (by eq_refl)) Jw)))
  (A2 (C0 (i:=5) ["_law_name"] ["_law_found","_law_one"] [1,3] ⋯ ⋯ ⋯ C1.nd ⋯ ⋯ (Ao (K:=K) hu (B1 (B7 (K:=K)) (Bm (A0 (pv 4) A1)) (A9 (A4 (K:=K) hu) (pv 1) (pv 4) (by ac_rfl)))) (λ_ _ _ _=>(Ae (i:=0) (by with_unfolding_all (show(["_law_name","_law_found","_law_one"]:List Str).Nodup;decide +kernel)) ⋯ (by eq_refl))) (Ap ∅) (λ_ _ _ _=>(Bw (A7 (Fx (K:=K) hq) (pv 0) (A9 (A4 (K:=K) hu) (pv 1) (pv 2) (by ac_rfl)) ⋯))) (λ_ _ _ _=>(pv 0)))
  (A2 (Ai (i:=2) C1.nd ⋯ (by eq_refl) (aw6 (pv 2) (D9 (At (C8 (K:=K) hq) (pv 5) (Bm A1) (Ac _)))))
  (A5 (Lh hu (pv 1) (pv 3) (B1 (B7 (K:=K)) (A9 (A4 (K:=K) hu) (pv 1) (pv 3) (by ac_rfl)) (pv 5)) ⋯))))))))
  (A5 (Aa (pv 1)))))),?_⟩
 symm;refine Hx hI λnv hN=>?_;obtain⟨na,rfl,hS⟩:=hN.nm;refine Ix hS ?_;refine Fq (By (xs:=ns.map V.str)) (λp i acc H1=>Same H H1/\∃ as:List Addr,as.length=i/\(∀(j:Nat) (z:Str) (a:Addr),ns[j]? = some z->as[j]? = some a->H1 a=some (.lst [])/\a≠p)/\PrsK K H1 (Eb (ns.take i) as) acc) (λp H' hp e h=>⟨e,[],rfl,λj z a _ h=>(by simp at h),by rfl⟩) (λp i acc H1 U=>U.1.seqT hS) (λp i x acc H1 hp hx hi hl ha U=>?_) λp acc H1 hp ha hl U=>?_
 . obtain ⟨e1,as,aD,aL,aF⟩:=U;rw[A06] at hx
   cases hz:ns[i]? with
   |none=>rw[hz] at hx;cases hx
   |some z=>
     rw[hz] at hx
     cases hx;have hin:i<ns.length:=(A03.mp hz).1;symm;refine Br ∅ λb H2 aJ e2 h2=>?_;symm;refine B3 (Ak (by simp)) λt H3 aG e3 h3=>?_;have aQ:H3 p=some (.lst acc):=e3 _ _ (e2 _ _ ha);refine J3 (by rw[A01];omega) hi hl aQ λH4 e4 h4=>?_;have aU:b≠p:=Ne.symm (ne_of_none ha aJ);refine⟨by walk_at "sm",as++[b],by simp[aD],λj y a hj aA=>?_,?_⟩
     . by_cases hji:j<as.length
       . rw[A1B hji] at aA;obtain⟨q1,q2⟩:=aL j y a hj aA;exact⟨e4 _ _ q2 (e3 _ _ (e2 _ _ q1)),q2⟩
       have hj':j=as.length:=by have:=(A03.mp aA).1;rw[A08,A1C] at this;omega
       subst hj';have:a=b:=by simpa using aA.symm
       subst this;exact⟨e4 _ _ aU (e3 _ _ h2),aU⟩
     have ht:ns.take (i+1)=ns.take i++[z]:=by rw[A0U,hz];rfl
     have hlen:(ns.take i).length=as.length:=by rw[A0S,aD];omega
     rw[ht,Pg hlen];have aC:=e4.fzL aQ;exact PrsK.snoc (kv:=(Sum.inr z,V.ref b)) (aC.seq (SqT.of h3)) (PrsK.fz ((e2.fz.trans e3.fz).trans aC) aF)
 obtain⟨e1,as,aD,aL,aF⟩:=U;rw[A01] at aD;rw[A01,A14] at aF;symm;refine U4 ha aF (by unfold Eb;rw[List.length_map,List.length_zip];omega) λr H2 hr2 e2 h2=>?_;rw[He _ _ (Kk hn) (λ_ _ _ h=>by cases h),A30] at h2;have aY:H r=none:=e1.free hr2;have hO2:Ovr H2 r ns as (λ_=>[]):=⟨aD,h2,λj z a hj aA=>e2 _ _ (aL j z a hj aA).1⟩;have hK0:OvOk ns ps (λ_=>[]):=⟨λ_ _=>List.nodup_nil,λ_ _ y hy=>by cases hy⟩;have hE2:Same H H2:=e1.trans e2;have aV:∀ ov,OvOk ns ps ov->Og ns ov<=100:=λov h=>A0M (h.tot hm) (A0M (A48 aP aP) ∅);symm
 refine ad8 (λm σ H3=>∃ b ov as x3 x4 x5,σ=[some v,some (.ref r),some (.bl b),x3,x4,x5]/\Same H H3/\Ovr H3 r ns as ov/\OvOk ns ps ov/\m=2*(100-Og ns ov)+b.toNat/\(b=false->∀ p∈ps,p.2∈ov p.1/\∀ y∈ov p.2,y∈ov p.1))
  (2*(100-Og ns λ_=>[])+1) ⟨true,_,as,_,_,_,rfl,hE2,hO2,hK0,rfl,λh=>by cases h⟩ λm σ H3 U=>?_
 obtain⟨b,ov,aN,x3,x4,x5,rfl,e3,aR,aI,hm3,hc3⟩:=U;have hf3:=aV ov aI;symm;refine aj9 (λhb=>?_) (λhb=>?_)
 . subst hb;refine aA3 ?_;symm;refine Xj (hI.hf_fz e3.fz) λpv hP3=>?_
   refine Z6 hP3 (λi σ H4=>∃ b O aB x3 x4 x5,σ=[some v,some (.ref r),some (.bl b),x3,x4,x5]/\Same H H4/\Fz H3 H4/\Ovr H4 r ns aB O/\OvOk ns ps O/\Og ns ov<=Og ns O/\(b=true->Og ns ov<Og ns O)/\(b=false->O=ov/\∀ p∈ps.take i,p.2∈ov p.1/\∀ y∈ov p.2,y∈ov p.1))
    ⟨false,ov,aN,_,_,_,rfl,e3,.refl _,aR,aI,Nat.le_refl _,(λh=>by cases h),λ_=>⟨rfl,λp hp=>by simp at hp⟩⟩ (λi σ' H' U=>?_) (λi p pv4 σ' H4 hp hpI U=>?_) (fun σ' H4 U=>?_)
   . obtain⟨_,_,_,_,_,_,_,_,fz,_⟩:=U;exact fz
   . obtain⟨b4,O,aB,y3,y4,y5,rfl,e4,aC,a0,a7,ht1,aM,aG⟩:=U;have a6:=hm p (A05 hp);obtain⟨i1,a1,a4,a8⟩:=a0.at a6.1;obtain⟨i2,a2,aW,aT⟩:=a0.at a6.2;have hr1:=a0.row _ _ _ a4 a8;have hr2':=a0.row _ _ _ aW aT;have hl1:=a7.len hm a6.1;have hl2:=a7.len hm a6.2;refine ad6 hpI ?_;symm;refine Br (Ak (by simp)) λq5 H5 hq5 e5 h5=>?_;symm;refine i_ixD (e5 _ _ a0.top) (Dz hn aW aT) ?_;refine Ly h5 (e5 _ _ hr2') (Ak (by rw[List.length_map];simp;omega)) λq6 H6 hq6 e6 h6=>?_;have h6':H6 q6=some (.lst ((p.2 :: O p.2).map V.str)):=h6;have aS:=(a0.same e5).same e6;refine Pt (SqL.of h6') (λz=>!decide (z∈O p.1)) PyData.str (λ_=>rfl) (by simp;omega) (λjj z H7 R R' hz e7 hR hR'=>?_) (λq7 ys7 H7 hq7 e7 h7 hL7=>?_)
     . have a3:=aS.same e7;symm;refine i_ixD a3.top (Dz hn a4 a8) ?_;refine Yh (SqL.of (a3.row _ _ _ a4 a8)) ?_;symm;refine Wu (λhb=>?_) (λhb=>?_)
       . symm;exact hR (by rw[hb];rfl) _ _ (.refl _) Xe
       exact hR' (by rw[hb];rfl) _ (.refl _)
     have hy7:=IsL.str_eq hL7;subst hy7;have aH:H7 q7=some (.lst ((Wi O p).map V.str)):=h7;have hfl:(Wi O p).length<=11:=Nat.le_trans (List.length_filter_le _ _) (by simp;omega)
     have hfok:SeqAt.shaped (.list ((Wi O p).map PyData.str))=true:=a63 λz hz=>by
      rcases A0G.mp (A0V.mp hz).1 with e|e
      . exact e ▸ aX _ a6.2
      obtain⟨p',a5,e'⟩:=A0A.mp (a7.way _ a6.2 z e).right;exact aX _ (e' ▸ (hm p' a5).2)
     have a3:=aS.same e7;have aO:Same H4 H7:=(e5.trans e6).trans e7;symm
     have put:∀ H8,Same H7 H8->∀ b8,(b8=true->b4=true\/Wi O p≠[])->(b8=false->b4=false/\Wi O p=[]) ->
      ∀ Z,ExtBut r H8 Z->∀ q9,H8 q9=some (.lst ((O p.1++Wi O p).map V.str))->Z r=some (.dK (Io (Eb ns aB) (Sum.inr p.1:Key) (.ref q9))) ->
      ∃ b aE as5 x3 x4 x5,([some v,some (.ref r),some (.bl b8),some (.str p.1),some (.str p.2),some (.ref q7)]:L2.St)=[some v,some (.ref r),some (.bl b),x3,x4,x5]/\Same H Z/\Fz H3 Z/\Ovr Z r ns as5 aE/\OvOk ns ps aE/\Og ns ov<=Og ns aE/\(b=true->Og ns ov<Og ns aE)/\(b=false->aE=ov/\∀ p∈ps.take (i+1),p.2∈ov p.1/\∀ y∈ov p.2,y∈ov p.1):=by
      intro H8 Y b8 hb1 aJ Z e9 q9 h9 ht9;have a9:=a3.same Y;have htot:=al2 (ov:=O) hn a6.1 (Wi O p);refine⟨b8,_,_,_,_,_,rfl,(e4.trans (aO.trans Y)).off aY e9,(aC.trans (aO.trans Y).fz).trans (e9.fzD a9.top),a9.put hn a4 e9 h9 ht9,a7.put hW.irr (A05 hp) a6,by omega,λh=>?_,λh=>?_⟩
      . rcases hb1 h with h|h
        . have:=aM h;omega
        have:0<(Wi O p).length:=A57.mpr h;omega
      obtain⟨h1,h2⟩:=aJ h;obtain⟨g1,g2⟩:=aG h1;rw[h2,ae8];refine⟨g1,λp' a5=>?_⟩;rw[A0U,hp] at a5;rcases A0O.mp a5 with a5|a5
      . exact g2 p' a5
      have:p'=p:=by simpa using a5
      rw[this,<- g1];exact a56 h2
     refine aj9 (λaK=>?_) (λaK=>?_)
     . symm;refine i_ixD a3.top (Dz hn a4 a8) ?_;symm;refine Ly (a3.row _ _ _ a4 a8) aH (Ak (by rw[A01,A01];omega)) λq8 H8 hq8 Y h8=>?_;rw[<- A0R] at h8;symm;refine Mx (a3.same Y).top (by unfold Eb;rw[List.length_map,List.length_zip];omega) λZ e9 h9=>?_;symm;exact put H8 Y true (λ_=>.inl aK) (λh=>by cases h) Z e9 q8 h8 h9
     symm;refine Br ∅ λq8 H8 hq8 Y h8=>?_;refine Vy (dx:=.list ((Wi O p).map PyData.str)) (dy:=.list []) (Is.of_lst (SqL.of (Y _ _ aH)) (Pe _)) (Is.of_lst (SqL.of h8) .nil) hfok (by rfl) ?_;rw[Qp];have a9:=a3.same Y;symm;refine i_ixD a9.top (Dz hn a4 a8) ?_;symm;refine Ly (a9.row _ _ _ a4 a8) (Y _ _ aH) (Ak (by rw[A01,A01];omega)) λq9 Z hq9 e9 h9=>?_;rw[<- A0R] at h9;symm;refine Mx (a9.same e9).top (by unfold Eb;rw[List.length_map,List.length_zip];omega) λH10 e10 h10'=>?_;symm;refine put Z (Y.trans e9) _ (λh=>.inr λe=>?_) (λh=>⟨aK,?_⟩) H10 e10 q9 h9 h10'
     . rw[e] at h
       cases h
     cases hfe:Wi O p with
     |nil=>rfl
     |cons z t=>rw[hfe] at h;cases h
   obtain⟨b4,O,aB,y3,y4,y5,rfl,e4,aC,a0,a7,ht1,aM,aG⟩:=U;have hf4:=aV O a7;have hm1:m=2*(100-Og ns ov)+1:=hm3;refine⟨2*(100-Og ns O)+b4.toNat,?_,b4,O,aB,_,_,_,rfl,e4,a0,a7,rfl,λh=>?_⟩
   . cases b4 with
     |true=>have:=aM rfl;show 2*(100-Og ns O)+1<m;omega
     |false=>show 2*(100-Og ns O)+0<m;omega
   obtain⟨g1,g2⟩:=aG h;rw[A14] at g2;rw[g1];exact g2
 subst hb;symm;exact k r aN H3 aY e3 (aR.tab aI (hc3 rfl))
structure KyO (ns:List Str)(ps:List (Str×Str))(ks:List Str)(qs:List (Str×Str)):Prop where
 pm:ks.Perm ns
 so:sortedS ks=true
 pso:J9 qs
 nd:qs.Nodup
 mem:∀ x y,(x,y)∈qs↔(x∈ns/\Way ps x y)
def KyA (K:W.Frag)(H:Hp)(t a b:Addr)(ks:List Str)(qs:List (Str×Str)):Prop:=SqT K H t [.ref a,.ref b]/\H a=some (.lst (ks.map V.str))/\∃ zs,H b=some (.lst zs)/\IsL K H (qs.map prD) zs
def AlH (ns:List Str)(ps:List (Str×Str))(ns':List Str)(ps':List (Str×Str)):Prop:=(∀ z,z∈ns↔z∈ns')/\∀ z∈ns,∀ y,Way ps z y↔Way ps' z y
def kyD (ks:List Str)(qs:List (Str×Str)):PyData:=.tuple [.list (ks.map PyData.str),.list (qs.map prD)]
def KyO.iff {ns ns' F:List Str}{ps ps' O:List (Str×Str)}(h:KyO ns ps ks qs)(h':KyO ns' ps' F O)(hn:ns.Nodup)(U:ns'.Nodup):(ks=F/\qs=O)↔AlH ns ps ns' ps':=by
 rw[Wj h.pm h.so h'.pm h'.so hn U,Tk (List.Perm.refl _) h.pso (List.Perm.refl _) h'.pso h.nd h'.nd];constructor
 . intro ⟨h1,h2⟩;refine⟨h1,λz hz y=>?_⟩;have:=h2 (z,y);rw[h.mem,h'.mem] at this;exact⟨λw=>(this.mp ⟨hz,w⟩).2,λw=>(this.mpr ⟨(h1 z).mp hz,w⟩).2⟩
 intro ⟨h1,h2⟩;refine⟨h1,λ(x,y)=>?_⟩;rw[h.mem,h'.mem];exact⟨λ⟨a,b⟩=>⟨(h1 x).mp a,(h2 x a y).mp b⟩,λ⟨a,b⟩=>⟨(h1 x).mpr a,(h2 x ((h1 x).mpr a) y).mpr b⟩⟩
def Ux {F:List Str}{O:List (Str×Str)}:PyData.eqv (kyD ks qs) (kyD F O)=true↔(ks=F/\qs=O):=by simp only[kyD,PyData.eqv,PyData.eqvAll,a11,a19,Bool.and_true,Bool.and_eq_true,decide_eq_true_eq]
def KyA.is {t:Addr}(h:KyA K H t a b ks qs):Is K H (kyD ks qs) (.ref t):=by obtain⟨h1,h2,zs,F,O⟩:=h;exact Is.of_tup h1 (.cons (Is.of_lst (SqL.of h2) (Pe _)) (.one (Is.of_lst (SqL.of F) O)))
theorem KyA.mono {t:Addr}(h:KyA K H t a b ks qs)(e:Same H H'):KyA K H' t a b ks qs:=by obtain⟨h1,h2,zs,F,O⟩:=h;exact⟨e.seqT h1,e _ _ h2,zs,e _ _ F,IsL.mono e _ _ O⟩
def KyA.but {t:Addr}(h:KyA K H t a b ks qs)(e:ExtBut p H H')(fz:Fz H H')(ha:a≠p)(U:b≠p):KyA K H' t a b ks qs:=by obtain⟨h1,h2,zs,F,O⟩:=h;exact⟨fz.seq h1,e _ _ ha h2,zs,e _ _ U F,IsL.fz fz _ _ (E2 _) O⟩
def KyO.nmp {ns:List Str}{ps:List (Str×Str)}(h:KyO ns ps ks qs)(g:Half ns ps):(∀ z∈ks,O0 z=true)/\NmP qs:=by refine⟨λz hz=>g.names.2 z (h.pm.mem_iff.mp hz),λ(x,y) O=>?_⟩;obtain⟨h1,h2⟩:=(h.mem x y).mp O;obtain⟨p',U,F⟩:=A0A.mp h2.right;exact⟨g.names.2 x h1,F ▸ g.names.2 _ (g.mem U).2⟩
def shp (h1:D0 D=true)(h2:D.depth<=64):SeqAt.shaped D=true:=by unfold SeqAt.shaped;rw[Nh _ h1,A0D h2];rfl
def KyO.facts {ns:List Str}{ps:List (Str×Str)}(h:KyO ns ps ks qs)(g:Half ns ps):D0 (kyD ks qs)=true/\(kyD ks qs).depth<=4:=by
 obtain⟨h1,h2⟩:=h.nmp g;refine⟨?_,?_⟩
 . simp only[kyD,D0,J5,Bool.and_true,Bool.and_eq_true];exact⟨Eu _ ks λz hz=>by simp only[D0];exact(Vt (h1 z hz)).1,Eu _ qs λp F=>(Uc (h2 p F).1 (h2 p F).2).1⟩
 have a:=E7 PyData.str 0 ks λz hz=>by simp only[PyData.depth];omega
 have b:=E7 prD 1 qs λp F=>(Uc (h2 p F).1 (h2 p F).2).2.1;simp only[kyD,PyData.depth,PyData.depthAll];omega
def Cj (K:W.Frag):Sp:=λvs H Q _=>∃ v ns ps,vs=[v]/\Is K H (hfD ns ps) v/\Half ns ps/\ns.length<=7/\∀ t a b ks qs H',Same H H'->H a=none->H b=none->KyA K H' t a b ks qs->KyO ns ps ks qs->qs.length<=49->Q (.ref t) H'
theorem Tz (F:Fu K "_law_key" Lr f fd)(T:Dy mg)(C5:Fnd P w K mg base 1 "_law_over" ["_law_half_here"] (E5 K)):FnOk P w K mg base CX0 2 f fd ["_law_half_here"] (Cj K):=by
 refine F.ok G6 (λvs H Q E h=>?_) (λcdv A outer s H vs Q E hr h=>?_)
 . obtain⟨v,ns,ps,rfl,_⟩:=h;rfl
 obtain⟨v,ns,ps,rfl,hI,hH,h7,k⟩:=h;have hu:=Bh hr;have hq:=Bg hr;have hn:=hH.names.1
 with_reducible refine⟨_,(A2 (Ai (i:=1) G6.nd ⋯ (by eq_refl) (An C5 (hr.mono ∅) ⋯ (A0 (pv 0) A1)))
  (A2 (Ai (i:=2) G6.nd ⋯ (by eq_refl) (Bm A1))
  (A2 (E4 A18 ⋯ (Ao (K:=K) hu (A9 (A4 (K:=K) hu) (pv 0) A3 (by ac_rfl))) (Ae (i:=3) G6.nd ⋯ (by with_unfolding_all exact A35 rfl))
  (A5 (Do (Ig (K:=K) A1A A4C A4D (mm Nj) (pv 2) (A0 (As ["_law_other"] ["_law_name"] [3] ⋯ ⋯ ⋯ (Ao (K:=K) hu (A9 (A4 (K:=K) hu) (pv 1) (pv 3) (by ac_rfl))) (λ_ _ _ _=>(Ae (i:=0) (by with_unfolding_all (show(["_law_other","_law_name"]:List Str).Nodup;decide +kernel)) ⋯ (by eq_refl))) (Ap ∅) (λ_ _ _ _=>B2) (λ_ _ _ _=>(B0 (A0 (pv 1) (A0 (pv 0) A1))))) A1)))))
  (A5 (Aa (B0 (A0 (A6 (S6 (K:=K)) ⋯ T.b_sorted PyProof.Rows.Boot.«sorted» (A0 (A9 (A4 (K:=K) hu) (pv 0) A3 (by ac_rfl)) A1)) (A0 (A6 (Rg (K:=K)) ⋯ T.b_sorted PyProof.Rows.Boot.«sorted» (A0 (pv 2) A1)) A1)))))))),?_⟩
 symm;refine⟨v,ns,ps,rfl,hI,hH.w,hH.few,hH.ok4,λr as H1 hr1 e1 hT=>?_⟩;symm;refine Br (Ak (by simp)) λp H2 hp2 e2 h2=>?_;symm;have e12:=e1.trans e2;refine Hx (hI.hf_fz e12.fz) λnv hN=>?_
 refine Zo hN (λi σ Y=>∃ x3,σ=[some v,some (.ref r),some (.ref p),x3]/\Same H1 Y/\Fz H2 Y/\∃ ys qs,Y p=some (.lst ys)/\IsL K Y (qs.map prD) ys/\qs.Nodup/\(∀ x y,(x,y)∈qs↔(x∈ns.take i/\Way ps x y))/\qs.length<=i*7)
  ⟨none,rfl,e2,.refl _,[],[],h2,.nil,List.nodup_nil,by simp,by simp⟩ (λi σ' H' hP=>?_) (λi z σ' Y hz hP=>?_) (fun σ' Y hP=>?_)
 . obtain⟨_,_,_,fz,_⟩:=hP;exact fz
 . obtain⟨x3,rfl,Z,a9,ys,qs,h3,hL,a8,a1,hql⟩:=hP;have hzm:=A05 hz;have hin:i<ns.length:=(A03.mp hz).1;have a5:=hT.same Z;obtain⟨a0,b0,aB,aC⟩:=a5.at hzm;obtain⟨ks,hk1,aD,a6⟩:=a5.row a0 z b0 aB aC
   have hkl:ks.length<=7:=A0M (Be aD λy hy=>by obtain⟨p',hp',e'⟩:=A0A.mp ((a6 y).mp hy).right;exact e' ▸ (hH.mem hp').2) h7
   have hyl:ys.length=qs.length:=by rw[<- IsL.length hL,A01]
   symm;refine Yz a5 hn aB aC ?_;refine Pt (SqL.of hk1) (λ_=>true) (λy=>prD (z,y)) (λ_=>Oo _) (by omega) (λj y H4 R R' hy O hR hR'=>?_) (λq zs H4 hq4 O h4 a4=>?_)
   . symm;refine B3 (Ak (by simp)) λt H5 ht5 U h5=>?_;exact hR rfl _ _ U (am1 (SqT.of h5))
   symm;have aA:=O _ _ h3;rw[A3B.mpr λ_ _=>rfl] at a4;have hzl:zs.length=ks.length:=by rw[<- IsL.length a4,A01]
   refine aa9 aA h4 (by omega) λH5 U h5=>?_;symm;have a3:Fz H4 H5:=U.fzL aA;refine⟨_,rfl,Same.off (q:=p) (H1:=H4) (Z.trans O) hp2 U,(a9.trans O.fz).trans a3,_,qs++ks.map λy=>(z,y),h5,?_,?_,λx y=>?_,?_⟩
   . rw[A0R,A1H];exact IsL.append (IsL.fz (O.fz.trans a3) _ _ (E2 _) hL) (IsL.fz a3 _ _ (Kl _ (λ_=>Oo _) _) a4)
   . refine A33.mpr ⟨a8,D7 aD λ_ _ _ _ e=>(Prod.mk.inj e).2,λa ha b hb=>?_⟩;rintro rfl;obtain⟨y,hy,rfl⟩:=A0A.mp hb;obtain⟨j,hj,ej⟩:=A1I ((a1 z y).mp ha).1;rw[A0S] at hj;rw[List.getElem_take] at ej;have:=(A1Z hn).mp (ej.trans (A03.mp hz).2.symm);omega
   . have ht:ns.take (i+1)=ns.take i++[z]:=by rw[A0U,hz];rfl
     rw[A0O,a1,ht,A0O,A0A];constructor
     . rintro(⟨h1,h2⟩|⟨y',h1,h2⟩)
       . exact⟨.inl h1,h2⟩
       cases h2;exact⟨.inr (by simp),(a6 _).mp h1⟩
     rintro⟨h1|h1,h2⟩
     . exact .inl ⟨h1,h2⟩
     have:x=z:=by simpa using h1
     subst this;exact .inr ⟨y,(a6 y).mpr h2,rfl⟩
   rw[A08,A01];omega
 obtain⟨x3,rfl,Z,a9,ys,qs,h3,hL,a8,a1,hql⟩:=hP;rw[A14] at a1;have hql':qs.length<=49:=by omega
 symm;refine Hx (hI.hf_fz (e1.fz.trans Z.fz)) λnv3 hN3=>?_;obtain⟨na,rfl,hS⟩:=hN3.nm;symm;refine a43 (.inr hS) (by omega) λp4 m4 H4 hp4 O h4 hm4 hs4=>?_;symm;refine Xq (.inl (SqL.of (O _ _ h3))) (IsL.mono O _ _ hL) (by omega) λp5 z5 q5 H5 hp5 U h5 a7 hs5 hL5=>?_;symm;refine B3 (Ak (by simp)) λt H6 ht6 e6 h6=>?_;have a2:=e1.trans Z;refine k t p4 p5 m4 q5 H6 (((a2.trans O).trans U).trans e6) (a2.free hp4) ((a2.trans O).free hp5) ⟨SqT.of h6,e6 _ _ (U _ _ h4),z5,e6 _ _ h5,IsL.mono e6 _ _ hL5⟩ ⟨hm4,hs4,hs5,a7.nodup_iff.mpr a8,λx y=>by rw[a7.mem_iff,a1]⟩ (by rw[a7.length_eq];exact hql')
structure aB8 (ns:List Str)(ps:List (Str×Str))(ls:List Str)(qs:List (Str×Str)):Prop where
 half:Half ls qs
 way:∀ x y,Way qs x y↔(x∈ls/\y∈ls/\Way ps x y)
theorem av0 {ns ls:List Str}{ps:List (Str×Str)}(h:Half ns ps)(hn:ls.Nodup)(hs:∀ z∈ls,z∈ns)(hl:qs.length<=60)(hm:∀ x y,(x,y)∈qs↔(x∈ls/\y∈ls/\Way ps x y)):aB8 ns ps ls qs:=by
 have hw:∀ x y,Way qs x y↔(x∈ls/\y∈ls/\Way ps x y):=λx y=>by
  constructor
  . intro w;have hw:=w.sub (ps:=ps) λp F=>((hm p.1 p.2).mp F).2.2;obtain⟨h1,h2⟩:=Way.mem (ns:=ls) (λp F=>⟨((hm p.1 p.2).mp F).1,((hm p.1 p.2).mp F).2.1⟩) w;exact⟨h1,h2,hw⟩
  exact λw=>.one ((hm x y).mpr w)
 have hf:=Be hn hs;have O:=h.few;exact⟨HalfW.h ⟨hn,λp F=>⟨((hm p.1 p.2).mp F).1,((hm p.1 p.2).mp F).2.1⟩,λx w=>h.irrefl ((hw x x).mp w).2.2,by omega,by omega⟩ ⟨hn,λz hz=>h.names.2 z (hs z hz)⟩ (by omega) hl,hw⟩
def D8 (K:W.Frag):Sp:=λvs H Q _=>∃ v l ns ps ls,vs=[v,.ref l]/\Is K H (hfD ns ps) v/\Half ns ps/\ns.length<=7/\H l=some (.lst (ls.map V.str))/\ls.Nodup/\(∀ z∈ls,z∈ns)/\∀ u qs H',Same H H'->Is K H' (hfD ls qs) u->aB8 ns ps ls qs->qs.length<=ls.length*7->Q u H'
theorem Rs (F:Fu K "_law_only" Jc f fd)(T:Dy mg)(C5:Fnd P w K mg base 1 "_law_over" ["_law_half_here"] (E5 K)):FnOk P w K mg base CX0 2 f fd ["_law_half_here","_law_left"] (D8 K):=by
 refine F.ok Fc (λvs H Q E h=>?_) (λcdv A outer s H vs Q E hr h=>?_)
 . obtain⟨v,l,ns,ps,ls,rfl,_⟩:=h;rfl
 obtain⟨v,l,ns,ps,ls,rfl,hI,hH,h7,aE,aF,a6,k⟩:=h;have hu:=Bh hr;have hq:=Bg hr;have hn:=hH.names.1;have hl7:ls.length<=7:=A0M (Be aF a6) h7
 with_reducible refine⟨_,(A2 (Ai (i:=2) Fc.nd ⋯ (by eq_refl) (An C5 (hr.mono ∅) ⋯ (A0 (pv 0) A1)))
  (A2 (Ai (i:=3) Fc.nd ⋯ (by eq_refl) (Bm A1))
  (A2 (E4 A18 ⋯ (Ao (K:=K) hu (pv 1)) (Ae (i:=4) Fc.nd ⋯ (by with_unfolding_all exact A35 rfl))
  (A5 (Do (Ig (K:=K) A1A A4C A4D (mm Nj) (pv 3) (A0 (As ["_law_other"] ["_law_name","_law_left"] [4,1] ⋯ ⋯ ⋯ (Ao (K:=K) hu (A9 (A4 (K:=K) hu) (pv 2) (pv 4) (by ac_rfl))) (λ_ _ _ _=>(Ae (i:=0) (by with_unfolding_all (show(["_law_other","_law_name","_law_left"]:List Str).Nodup;decide +kernel)) ⋯ (by eq_refl))) (Ap ∅) (λ_ _ _ _=>(Bw (A7 (D3 (K:=K) hq) (pv 0) (pv 2) ⋯))) (λ_ _ _ _=>(B0 (A0 (pv 1) (A0 (pv 0) A1))))) A1)))))
  (A5 (Aa (B0 (A0 (Bd (Cg (K:=K)) ⋯ T.b_tuple PyProof.Rows.Boot.«tuple» (A0 (pv 1) A1)) (A0 (Bd (Cg (K:=K)) ⋯ T.b_tuple PyProof.Rows.Boot.«tuple» (A0 (pv 3) A1)) A1)))))))),?_⟩
 symm;refine⟨v,ns,ps,rfl,hI,hH.w,hH.few,hH.ok4,λr as H1 hr1 e1 hT=>?_⟩;symm;refine Br (Ak (by simp)) λp H2 aG e2 h2=>?_;have a9:=(e1.trans e2) _ _ aE;have hlp:l≠p:=ne_of_none (e1 _ _ aE) aG;symm;refine Hq (SqL.of a9) ?_
 refine Kp (Bc (xs:=ls.map V.str)) (λi σ Y=>∃ x4,σ=[some v,some (.ref l),some (.ref r),some (.ref p),x4]/\Same H1 Y/\∃ ys qs,Y l=some (.lst (ls.map V.str))/\Y p=some (.lst ys)/\IsL K Y (qs.map prD) ys/\(∀ x y,(x,y)∈qs↔(x∈ls.take i/\y∈ls/\Way ps x y))/\qs.length<=i*7)
  ⟨none,rfl,e2,[],[],a9,h2,.nil,by simp,by simp⟩ (λi σ' H' hP=>?_) (λi x σ' Y hx hi hP=>?_) (fun σ' Y hP=>?_)
 . obtain⟨_,_,_,_,_,h,_⟩:=hP;exact SqL.of h
 . obtain ⟨x4,rfl,e3,ys,qs,a2,Z,hL,a1,a7⟩:=hP;rw[A06] at hx
   cases hz:ls[i]? with
   |none=>rw[hz] at hx;cases hx
   |some z=>
     rw[hz] at hx
     cases hx;have hzl:=A05 hz;have hzm:=a6 z hzl;rw[A01] at hi;have a4:=hT.same e3;obtain⟨a0,b0,aC,aD⟩:=a4.at hzm;obtain⟨ks,hk1,hk2,a5⟩:=a4.row a0 z b0 aC aD
     have hkl:ks.length<=7:=A0M (Be hk2 λy hy=>by obtain⟨p',hp',e'⟩:=A0A.mp ((a5 y).mp hy).right;exact e' ▸ (hH.mem hp').2) h7
     have hyl:ys.length=qs.length:=by rw[<- IsL.length hL,A01]
     symm;refine Yz a4 hn aC aD ?_;refine Pt (SqL.of hk1) (λy=>decide (y∈ls)) (λy=>prD (z,y)) (λ_=>Oo _) (by omega) (λj y H4 R R' hy O hR hR'=>?_) (λq zs H4 hq4 O h4 aB=>?_)
     . symm;refine Z1 (SqL.of (O _ _ a2)) ?_;symm;refine aj9 (λhb=>?_) (λhb=>?_)
       . symm;refine B3 (Ak (by simp)) λt H5 ht5 U h5=>?_;exact hR hb _ _ U (am1 (SqT.of h5))
       exact hR' hb _ (Same.refl _)
     symm;have aA:=O _ _ Z
     have hzl4:zs.length<=ks.length:=by rw[<- IsL.length aB,A01];exact A1K _ _
     refine aa9 aA h4 (by omega) λH5 U h5=>?_;symm;have a8:Fz H4 H5:=U.fzL aA;refine⟨_,rfl,Same.off (q:=p) (H1:=H4) (e3.trans O) aG U,_,qs++(ks.filter λy=>decide (y∈ls)).map λy=>(z,y),U _ _ hlp (O _ _ a2),h5,?_,λx y=>?_,?_⟩
     . rw[A0R,A1H];exact IsL.append (IsL.fz (O.fz.trans a8) _ _ (E2 _) hL) (IsL.fz a8 _ _ (Kl _ (λ_=>Oo _) _) aB)
     . have ht:ls.take (i+1)=ls.take i++[z]:=by rw[A0U,hz];rfl
       rw[A0O,a1,ht,A0O,A0A];constructor
       . rintro(⟨h1,h2⟩|⟨y',h1,h2⟩)
         . exact⟨.inl h1,h2⟩
         cases h2;obtain⟨g1,g2⟩:=A0V.mp h1;exact⟨.inr (by simp),of_decide_eq_true g2,(a5 _).mp g1⟩
       rintro⟨h1|h1,h2,Z⟩
       . exact .inl ⟨h1,h2,Z⟩
       have:x=z:=by simpa using h1
       subst this;exact .inr ⟨y,A0V.mpr ⟨(a5 y).mpr Z,A0D h2⟩,rfl⟩
     have:=A1K (λy=>decide (y∈ls)) ks;rw[A08,A01];omega
 obtain⟨x4,rfl,e3,ys,qs,a2,Z,hL,a1,a7⟩:=hP;rw[A01] at a7 a1;rw[A14] at a1;symm;refine Fb (SqL.of a2) λt4 H4 ht4 O h4=>?_;symm;refine Fb (SqL.of (O _ _ Z)) λt5 H5 ht5 U h5=>?_;symm;refine B3 (Ak (by simp)) λt6 H6 ht6 e6 h6=>?_;have a3:Same H4 H6:=U.trans e6;refine k (.ref t6) qs H6 ((e1.trans e3).trans (O.trans a3)) (a46 (SqT.of h6) ((Z7 (SqT.of h4)).nm_fz a3.fz) (Is.of_tup (SqT.of (e6 _ _ h5)) (IsL.mono (O.trans a3) _ _ hL))) (av0 hH aF a6 (by omega) a1) a7
def C7 (K:W.Frag):Sp:=λvs H Q _=>∃ n,vs=[.int n]/\Q (.bl true) H
def Dh (K:W.Frag):Sp:=λvs H Q _=>∃(v:V) (js:List Int),vs=[v]/\Is K H (.tuple (js.map PyData.int)) v/\js.length<=1000/\∀ H',Same H H'->Q (.bl true) H'
def Co (K:W.Frag):Sp:=λvs H Q _=>∃ v ns,vs=[v]/\Is K H (nmD ns) v/\Names ns/\ns.length<=10/\∀ H',Same H H'->Q (.bl true) H'
def a27:∀ c<123,97<=c->Vu c=true:=by decide +kernel
def S3 (h:O0 z=true):Ew z=true:=by unfold O0 at h;unfold Ew;rw[A0W] at h ⊢;refine⟨h.1,?_⟩;rw[A0L];intro c F;have:=A0L.mp h.2 c F;unfold Kc at this;simp only[Bool.and_eq_true,decide_eq_true_eq] at this;exact a27 c (by omega) (by omega)
theorem Fy {K:W.Frag}{σ:L2.St}{k:Nat}{js:List Nat}(hw:Eo J xs G)(hz:xs.length<=1000000)(U:∀ H',Same H H'->G H')
 (hs:∀(i:Nat) v H1 (R:VK) (R':Hp->Prop),xs[i]? = some v->Same H H1->(∀ H2,Same H1 H2->R' H2)->g v (List.replicate k none++Mm σ js) H1 fun σ2 H2=>tt σ2 H2 λb F=>if b=true then te σ2 F R else R' F)
 (hd:∀ p H',H p=none->Same H H'->H' p=some (.lst [])->Q (.ref p) H'):Kw k js g tt te σ J H Q:=
 C4 (K:=K) hw xs rfl (λ_=>false) (λ_=>PyData.none) (λ_=>rfl) hz U (λi a v H1 R R' _ hv e _ Y=>hs i v H1 R R' hv e (Y rfl)) λp ys H' Z e h O=>by
  rw[A4J.mpr λ_ _ h=>(by cases h)] at O
  cases O;exact hd p H' Z e h
def a33 (h:H a=some (.lst []))(h':H b=some (.lst []))(k:Q (.bl false) H):ao4 K (.ref a) (.ref b) H Q:=Vy (dx:=.list []) (dy:=.list []) (Is.of_lst (SqL.of h) .nil) (Is.of_lst (SqL.of h') .nil) (by rfl) (by rfl) k
def ay4 (h:H a=some (.lst []))(h':H b=some (.lst []))(k:Q (.bl true) H):ab1 K (.ref a) (.ref b) H Q:=Rl (dx:=.list []) (dy:=.list []) (Is.of_lst (SqL.of h) .nil) (Is.of_lst (SqL.of h') .nil) (by rfl) (by rfl) k
def ax7 {c:Nat}(h:Vu c=true)(k:Q (.bl false) H):Sq K true (.str ⟨#[c]⟩) (.str "abcdefghijklmnopqrstuvwxyz") H Q:=.inr (.inl ⟨_,_,rfl,rfl,by unfold Vu az at h;rw[A3O] at h;rw[h];exact k⟩)
theorem M3 (F:Fu K "_law_is_whole" F5 f fd)(T:Dy mg):FnOk P w K mg base CX0 1 f fd ["_law_thing"] (C7 K):=by
 refine F.ok Ma (λvs H Q E h=>?_) (λY A outer s H vs Q E U h=>?_)
 . obtain⟨n,rfl,_⟩:=h;rfl
 obtain⟨n,rfl,k⟩:=h;have hu:=Bh U;have Z:=Bg U;have O:Is K H (.int n) (.int n):=by simp only[Is]
 with_reducible refine⟨_,(A5 (Aa (Cm (A6 (Al (K:=K)) ⋯ T.b_isinstance PyProof.Rows.Boot.«isinstance» (A0 (pv 0) (A0 (B9 (v:=.ty "int") ⋯ T.b_int PyProof.Rows.Boot.«int» ⋯) A1))) (D9 (ac0 (A6 (Al (K:=K)) ⋯ T.b_isinstance PyProof.Rows.Boot.«isinstance» (A0 (pv 0) (A0 (B9 (v:=.ty "bool") ⋯ T.b_bool PyProof.Rows.Boot.«bool» ⋯) A1)))))))),?_⟩
 symm;refine ab5 O ⟨_,rfl,?_⟩;rw[A0K (by rfl)];symm;refine Ze O ?_;symm;exact k
theorem K8 (F:Fu K "_law_are_wholes" Dm f fd)(T:Dy mg)(B4:Fnd P w K mg base 1 "_law_is_whole" ["_law_thing"] (C7 K)):FnOk P w K mg base CX0 2 f fd ["_law_thing"] (Dh K):=by
 refine F.ok Ko (λvs H Q E h=>?_) (λcdv A outer s H vs Q E U h=>?_)
 . obtain⟨v,js,rfl,_⟩:=h;rfl
 obtain⟨v,js,rfl,hI,hl,k⟩:=h;have hu:=Bh U;have hq:=Bg U;obtain⟨a,xs,rfl,hS,hL⟩:=hI.tup;have hx:=Gd hL;subst hx
 with_reducible refine⟨_,(A5 (Aa (Cm (A6 (Al (K:=K)) ⋯ T.b_isinstance PyProof.Rows.Boot.«isinstance» (A0 (pv 0) (A0 (B9 (v:=.ty "tuple") ⋯ T.b_tuple PyProof.Rows.Boot.«tuple» ⋯) A1))) (D9 (At (Aq (K:=K) hq) (As ["_law_one"] [] [] ⋯ ⋯ ⋯ (Ao (K:=K) hu (pv 0)) (λ_ _ _ _=>(Ae (i:=0) (by with_unfolding_all (show(["_law_one"]:List Str).Nodup;decide +kernel)) ⋯ (by eq_refl))) (Ap ∅) (λ_ _ _ _=>(Bw (Bj (B8 (An B4 (U.mono ∅) ⋯ (A0 (pv 0) A1)))))) (λ_ _ _ _=>(pv 0))) (Bm A1) (Ac _)))))),?_⟩
 symm;refine Ep hI ⟨_,rfl,?_⟩;rw[A0K (by rfl)];symm;refine Ix hS ?_;refine Fy (K:=K) (By (xs:=js.map V.int)) (by rw[A01];omega) (λH' e=>e.seqT hS) (λi v H1 R R' O Y hR'=>?_) (λp H1 hp1 Y h1=>?_)
 . rw[A06] at O
   cases hj:js[i]? with
   |none=>rw[hj] at O;cases O
   |some j=>
     rw[hj] at O
     cases O;symm;refine⟨j,rfl,?_⟩;symm;exact hR' _ (.refl _)
 symm;refine Br ∅ λq H2 hq2 Z h2=>?_;refine ay4 (Z _ _ h1) h2 ?_;exact k _ (Y.trans Z)
theorem L8 (F:Fu K "_law_are_names" Ea f fd)(T:Dy mg):FnOk P w K mg base CX0 1 f fd ["_law_thing"] (Co K):=by
 refine F.ok G5 (λvs H Q E h=>?_) (λcdv A outer s H vs Q E hr h=>?_)
 . obtain⟨v,ns,rfl,_⟩:=h;rfl
 obtain⟨v,ns,rfl,hI,hN,hl,k⟩:=h;have hu:=Bh hr;have Z:=Bg hr;obtain⟨a,rfl,Y⟩:=hI.nm
 with_reducible refine⟨_,(A2 (Ai (i:=1) G5.nd ⋯ (by with_unfolding_all exact A35 rfl) Af)
  (A2 (Av (PW.pt (E9 (Bj (B8 (A6 (Al (K:=K)) ⋯ T.b_isinstance PyProof.Rows.Boot.«isinstance» (A0 (pv 0) (A0 (B9 (v:=.ty "tuple") ⋯ T.b_tuple PyProof.Rows.Boot.«tuple» ⋯) A1))))) (Dj (A7 (C8 (K:=K) Z) (As ["_law_one"] [] [] ⋯ ⋯ ⋯ (Ao (K:=K) hu (pv 0)) (λ_ _ _ _=>(Ae (i:=0) (by with_unfolding_all (show(["_law_one"]:List Str).Nodup;decide +kernel)) ⋯ (by eq_refl))) (Ap ∅) (λ_ _ _ _=>(Bw (Bj (B8 (A6 (Al (K:=K)) ⋯ T.b_isinstance PyProof.Rows.Boot.«isinstance» (A0 (pv 0) (A0 (B9 (v:=.ty "str") ⋯ T.b_str PyProof.Rows.Boot.«str» ⋯) A1))))))) (λ_ _ _ _=>(pv 0))) (Bm A1) (Ac _))))) (A5 (Aa E6)) Ad)
  (A2 (Av (A7 (C8 (K:=K) Z) (As ["_law_one"] ["_law_letters"] [1] ⋯ ⋯ ⋯ (Ao (K:=K) hu (pv 0)) (λ_ _ _ _=>(Ae (i:=0) (by with_unfolding_all (show(["_law_one","_law_letters"]:List Str).Nodup;decide +kernel)) ⋯ (by eq_refl))) (Ap ∅) (λ_ _ _ _=>(Bw (PW.pt (E9 (Bj (Pa Tj Tj A3 (A6 (Ab (K:=K)) ⋯ T.b_len PyProof.Rows.Boot.«len» (A0 (pv 0) A1)) A3)) (Dj (A7 (C8 (K:=K) Z) (As ["_law_sign"] ["_law_letters"] [1] ⋯ ⋯ ⋯ (Ao (K:=K) hu (pv 0)) (λ_ _ _ _=>(Ae (i:=0) (by with_unfolding_all (show(["_law_sign","_law_letters"]:List Str).Nodup;decide +kernel)) ⋯ (by eq_refl))) (Ap ∅) (λ_ _ _ _=>(Bw (A7 (Fx (K:=K) Z) (pv 0) (pv 1) ⋯))) (λ_ _ _ _=>(pv 0))) (Bm A1) (Ac _))))))) (λ_ _ _ _=>(pv 0))) (Bm A1) (Ac _)) (A5 (Aa E6)) Ad)
  (A5 (Aa (At (Aq (K:=K) Z) (Qc (K:=K) hr.hd ⋯ T.b_len ⋯ T.b_set (A0 (pv 0) A1)) (A6 (Ab (K:=K)) ⋯ T.b_len PyProof.Rows.Boot.«len» (A0 (pv 0) A1)) (Ac _))))))),?_⟩
 have str:∀ {i:Nat} {v:V},(ns.map V.str)[i]? = some v->∃ z,v = .str z/\O0 z=true:=fun {i v} O=>by obtain⟨z,hz,rfl⟩:=A0A.mp (A05 O);exact⟨z,rfl,hN.2 z hz⟩
 symm;refine Ep hI ⟨_,rfl,?_⟩;rw[if_neg (by simp[Wb,nmD])];symm;refine Ix Y ?_;refine Fy (K:=K) (By (xs:=ns.map V.str)) (by rw[A01];omega) (λH' e=>e.seqT Y) (λi v H1 R R' O e1 U=>?_) (λp H1 hp1 e1 h1=>?_)
 . obtain⟨z,rfl,hz⟩:=str O;symm;refine F7 (TyOf.str z) (b:=true) (by rfl) ?_;symm;exact U _ (.refl _)
 symm;refine Br ∅ λq H2 hq2 e2 h2=>?_;refine a33 (e2 _ _ h1) h2 ?_;symm;have a0:=e1.trans e2;refine Ix (a0.seqT Y) ?_;refine Fy (K:=K) (By (xs:=ns.map V.str)) (by rw[A01];omega) (λH' e=>(a0.trans e).seqT Y) (λi v H3 R R' O e3 U=>?_) (λp3 H3 hp3 e3 h3=>?_)
 . obtain⟨z,rfl,hz⟩:=str O;have a2:=S3 hz;unfold Ew at a2;simp only[Bool.and_eq_true,decide_eq_true_eq,List.all_eq_true] at a2;obtain⟨⟨hz1,hz8⟩,hzs⟩:=a2;symm;symm;rw[A0D (show(1:Int)<=z.length by omega),A0K rfl];symm;rw[A0D (show(z.length:Int)<=8 by omega)];symm;refine Fy (K:=K) (Ua z) (by rw[A01,A1O];exact A0M hz8 ∅) (λ_ _=>trivial) (λi v H5 R R' O e5 U=>?_) (λp5 H5 hp5 e5 h5=>?_)
   . obtain⟨c,rfl,hc⟩:=a14 O;symm;refine ax7 (hzs c hc) ?_;symm;exact U _ (.refl _)
   symm;refine Br ∅ λq6 H6 hq6 e6 h6=>?_;refine a33 (e6 _ _ h5) h6 ?_;symm;exact U _ (e5.trans e6)
 symm;refine Br ∅ λq4 H4 hq4 e4 h4=>?_;refine a33 (e4 _ _ h3) h4 ?_;symm;have a1:=(a0.trans e3).trans e4;refine U8 (a1.seqT Y) (by omega) ?_;symm;refine S0 (hI.nm_fz a1.fz) ?_;symm;rw[S5 hN.1];have:=k H4 a1;simpa using this
def Ey (K:W.Frag):Sp:=λvs H Q _=>∃ v ns ps,vs=[v]/\Is K H (hfD ns ps) v/\Half ns ps/\∀ H',Same H H'->Q (.bl true) H'
theorem N9 (F:Fu K "_law_is_half" Fg f fd)(T:Dy mg)(C5:Fnd P w K mg base 1 "_law_over" ["_law_half_here"] (E5 K))(Bu:Fnd P w K mg base 1 "_law_are_names" ["_law_thing"] (Co K)):FnOk P w K mg base CX0 2 f fd ["_law_thing"] (Ey K):=by
 refine F.ok Ev (λvs H Q E h=>?_) (λcdv A outer s H vs Q E hr h=>?_)
 . obtain⟨v,ns,ps,rfl,_⟩:=h;rfl
 obtain⟨v,ns,ps,rfl,hI,U,k⟩:=h;have hu:=Bh hr;have hq:=Bg hr;have hfew:=U.few;have hle:=U.le;have hn:=U.names.1;obtain⟨ta,nv,sv,rfl,hS,hN,Y⟩:=hI.hf;obtain⟨na,rfl,a8⟩:=hN.nm
 with_reducible refine⟨_,(A2 (Av (PW.pt (E9 (Bj (B8 (A6 (Al (K:=K)) ⋯ T.b_isinstance PyProof.Rows.Boot.«isinstance» (A0 (pv 0) (A0 (B9 (v:=.ty "tuple") ⋯ T.b_tuple PyProof.Rows.Boot.«tuple» ⋯) A1))))) (E9 (A7 (C8 (K:=K) hq) (A6 (Ab (K:=K)) ⋯ T.b_len PyProof.Rows.Boot.«len» (A0 (pv 0) A1)) A3 (Ac _)) (E9 (Bj (B8 (An Bu (hr.mono ∅) ⋯ (A0 (A9 (A4 (K:=K) hu) (pv 0) A3 (by ac_rfl)) A1)))) (Dj (A7 Vs (A6 (Ab (K:=K)) ⋯ T.b_len PyProof.Rows.Boot.«len» (A0 (A9 (A4 (K:=K) hu) (pv 0) A3 (by ac_rfl)) A1)) A3 (Ac _))))))) (A5 (Aa E6)) Ad)
  (A2 (Av (PW.pt (E9 (Bj (B8 (A6 (Al (K:=K)) ⋯ T.b_isinstance PyProof.Rows.Boot.«isinstance» (A0 (A9 (A4 (K:=K) hu) (pv 0) A3 (by ac_rfl)) (A0 (B9 (v:=.ty "tuple") ⋯ T.b_tuple PyProof.Rows.Boot.«tuple» ⋯) A1))))) (Dj (A7 Vs (A6 (Ab (K:=K)) ⋯ T.b_len PyProof.Rows.Boot.«len» (A0 (A9 (A4 (K:=K) hu) (pv 0) A3 (by ac_rfl)) A1)) A3 (Ac _))))) (A5 (Aa E6)) Ad)
  (A2 (E4 A18 ⋯ (Ao (K:=K) hu (A9 (A4 (K:=K) hu) (pv 0) A3 (by ac_rfl))) (Ae (i:=1) Ev.nd ⋯ (by eq_refl))
  (A2 (Av (PW.pt (E9 (Bj (B8 (A6 (Al (K:=K)) ⋯ T.b_isinstance PyProof.Rows.Boot.«isinstance» (A0 (pv 1) (A0 (B9 (v:=.ty "tuple") ⋯ T.b_tuple PyProof.Rows.Boot.«tuple» ⋯) A1))))) (E9 (A7 (C8 (K:=K) hq) (A6 (Ab (K:=K)) ⋯ T.b_len PyProof.Rows.Boot.«len» (A0 (pv 1) A1)) A3 (Ac _)) (Dj (A7 (C8 (K:=K) hq) (As ["_law_name"] [] [] ⋯ ⋯ ⋯ (Ao (K:=K) hu (pv 1)) (λ_ _ _ _=>(Ae (i:=0) (by with_unfolding_all (show(["_law_name"]:List Str).Nodup;decide +kernel)) ⋯ (by eq_refl))) (Ap ∅) (λ_ _ _ _=>(Bw (Bj (B8 (A6 (Al (K:=K)) ⋯ T.b_isinstance PyProof.Rows.Boot.«isinstance» (A0 (pv 0) (A0 (B9 (v:=.ty "str") ⋯ T.b_str PyProof.Rows.Boot.«str» ⋯) A1))))))) (λ_ _ _ _=>(pv 0))) (Bm A1) (Ac _)))))) (A5 (Aa E6)) Ad)
  (A5 (Av (PW.pt (E9 (A7 (Fx (K:=K) hq) (A9 (A4 (K:=K) hu) (pv 1) A3 (by ac_rfl)) (A9 (A4 (K:=K) hu) (pv 0) A3 (by ac_rfl)) ⋯) (Dj (A7 (Fx (K:=K) hq) (A9 (A4 (K:=K) hu) (pv 1) A3 (by ac_rfl)) (A9 (A4 (K:=K) hu) (pv 0) A3 (by ac_rfl)) ⋯)))) (A5 (Aa E6)) Ad))))
  (A2 (Ai (i:=2) Ev.nd ⋯ (by with_unfolding_all exact A35 rfl) (An C5 (hr.mono ∅) ⋯ (A0 (pv 0) A1)))
  (A5 (Aa (At (Aq (K:=K) hq) (As ["_law_name"] ["_law_over_here"] [2] ⋯ ⋯ ⋯ (Ao (K:=K) hu (A9 (A4 (K:=K) hu) (pv 0) A3 (by ac_rfl))) (λ_ _ _ _=>(Ae (i:=0) (by with_unfolding_all (show(["_law_name","_law_over_here"]:List Str).Nodup;decide +kernel)) ⋯ (by eq_refl))) (Ap ∅) (λ_ _ _ _=>(Bw (A7 (D3 (K:=K) hq) (pv 0) (A9 (A4 (K:=K) hu) (pv 1) (pv 0) (by ac_rfl)) ⋯))) (λ_ _ _ _=>(pv 0))) (Bm A1) (Ac _)))))))),?_⟩
 symm;refine Ep hI ⟨_,rfl,?_⟩;rw[if_neg (by simp[Wb,hfD])];symm;refine M5 hS ?_;symm;rw[if_neg (by simp)];symm;refine Au hS (show atI [V.ref na,sv] ((0:Nat):Int)=_ from Ag rfl) ?_;symm;refine⟨_,ns,rfl,hN,U.names,hfew,λH1 O=>?_⟩;symm;refine Au (O.seqT hS) (show atI [V.ref na,sv] ((0:Nat):Int)=_ from Ag rfl) ?_;symm;refine S0 (hN.nm_fz O.fz) ?_;symm;rw[if_neg (show ¬ decide (((10:Int)<ns.length))=true by simp;omega)];symm;refine Au (O.seqT hS) (show atI [V.ref na,sv] ((1:Nat):Int)=_ from Ag rfl) ?_;symm;refine Ep (Y.ps_fz O.fz) ⟨_,rfl,?_⟩;rw[if_neg (by simp[Wb,psD])];symm;refine Au (O.seqT hS) (show atI [V.ref na,sv] ((1:Nat):Int)=_ from Ag rfl) ?_;symm;refine aq1 (Y.ps_fz O.fz) ?_;symm;rw[if_neg (show ¬ decide (((60:Int)<ps.length))=true by simp;omega)];symm;refine Au (O.seqT hS) (show atI [V.ref na,sv] ((1:Nat):Int)=_ from Ag rfl) ?_;refine Z6 (Y.ps_fz O.fz) (λi σ H2=>∃ x1,σ=[some (.ref ta),x1,none]/\Same H1 H2) ⟨_,rfl,.refl _⟩ (λi σ' H' Y=>?_) (λi p v σ' H2 hp Z Y=>?_) (fun σ' H2 Y=>?_)
 . obtain⟨_,_,e⟩:=Y;exact e.fz
 . obtain⟨x1,rfl,e2⟩:=Y;have a1:=O.trans e2;have hm:=U.mem (A05 hp);obtain⟨pa,rfl,a6⟩:=Z.pr;symm;refine Ep Z ⟨_,rfl,?_⟩;rw[if_neg (by simp[Wb,prD])];symm;refine M5 a6 ?_;symm;rw[if_neg (by simp)];symm;refine Ix a6 ?_;refine Fy (K:=K) (By (xs:=[.str p.1,.str p.2])) (by simp) (λH' e=>e.seqT a6) (λi v H3 R R' Z e3 a5=>?_) (λq H3 hq3 e3 h3=>?_)
   . obtain⟨z,rfl⟩:∃ z,v=V.str z:=by have:=A05 Z;rw[A0G,A0Q] at this;rcases this with h|h<;>exact⟨_,h⟩
     symm;refine F7 (TyOf.str z) (b:=true) (by rfl) ?_;symm;exact a5 _ (.refl _)
   symm;refine Br ∅ λq4 H4 hq4 e4 h4=>?_;refine a33 (e4 _ _ h3) h4 ?_;have a3:=e3.trans e4;have a4:=a1.trans a3;have aB:∀ {Q:VK},Q (.ref na) H4->Qb K (.ref ta) (.int 0) H4 Q:=λk=>Au (a4.seqT hS) (show atI [V.ref na,sv] ((0:Nat):Int)=_ from Ag rfl) k;symm;refine Yd (Z.pr_fz a3.fz) ?_;symm;refine aB ?_;refine ad1 (hN.nm_fz a4.fz) ?_;rw[A0D hm.1];symm;refine Ys (Z.pr_fz a3.fz) ?_;symm;refine aB ?_;refine ad1 (hN.nm_fz a4.fz) ?_;rw[A0D hm.2];symm;exact⟨_,rfl,e2.trans a3⟩
 obtain⟨x1,rfl,e2⟩:=Y;have a1:=O.trans e2;symm;refine⟨_,ns,ps,rfl,hI.hf_fz a1.fz,U.w,U.few,U.ok4,λr as H3 hr3 e3 hT=>?_⟩;have a2:=a1.trans e3;symm;refine Au (a2.seqT hS) (show atI [V.ref na,sv] ((0:Nat):Int)=_ from Ag rfl) ?_;refine Ix (a2.seqT a8) ?_;refine Fy (K:=K) (By (xs:=ns.map V.str)) (by rw[A01];omega) (λH' e=>(a2.trans e).seqT a8) (λi v H4 R R' Z e4 a5=>?_) (λq H4 hq4 e4 h4=>?_)
 . rw[A06] at Z;obtain⟨z,hz,rfl⟩:=A0Z.mp Z;have a7:=hT.same e4;obtain⟨a0,b0,a9,aA⟩:=a7.at (A05 hz);obtain⟨ks,hk1,hk2,hk3⟩:=a7.row a0 z b0 a9 aA;symm;refine Yz a7 hn a9 aA ?_;refine Z1 (SqL.of hk1) ?_;rw[A0H λh=>U.irrefl ((hk3 z).mp h)];symm;exact a5 _ (.refl _)
 symm;refine Br ∅ λq5 H5 hq5 e5 h5=>?_;refine ay4 (e5 _ _ h4) h5 ?_;exact k H5 ((a2.trans e4).trans e5)
def F0 (K:W.Frag):Sp:=λvs H Q _=>∃(nv v:V) (D:PyData) (js:List Int),vs=[nv,v]/\Is K H D v/\Ru D js/\∀ H',Same H H'->Q (.bl true) H'
def Cy (K:W.Frag):Sp:=λvs H Q _=>∃(v:V) (D:PyData) (js:List Int),vs=[v]/\Is K H D v/\Ru D js/\∀ a H',Same H H'->SqT K H' a (js.map V.int)->Q (.ref a) H'
theorem Ru.at {js:List Int}(h:Ru D js)(Z:Is K H D v):(∃ ta,v = .ref ta/\D = .tuple [.str "row"]/\js=[]/\SqT K H ta [.str "row"])\/∃ ta O w,v = .ref ta/\D = .tuple [.str w,.tuple (js.map PyData.int)]/\(w = "last" \/ w = "first")/\SqT K H ta [.str w,.ref O]/\SqT K H O (js.map V.int)/\js.length<=1000:=by
 cases h with
 |row=>obtain⟨ta,xs,rfl,U,F⟩:=Is.tup Z;simp only[L2.IsL,L2.Is] at F;obtain⟨_,_,rfl,rfl,rfl⟩:=F;exact .inl ⟨ta,rfl,rfl,rfl,U⟩
 |ends w hw js hl=>obtain⟨ta,xs,rfl,U,F⟩:=Is.tup Z;obtain⟨y0,r0,rfl,Y,y1,r1,rfl,h1,rfl⟩:=(show ∃ v r,xs=v :: r/\Is K H (.str w) v/\∃ v' r',r=v' :: r'/\Is K H (.tuple (js.map PyData.int)) v'/\r'=[] by simpa only[L2.IsL] using F);simp only[L2.Is] at Y;subst Y;obtain⟨O,xs,rfl,a0,hLj⟩:=Is.tup h1;rw[Gd hLj] at a0;exact .inr ⟨ta,O,w,rfl,rfl,hw,U,a0,hl⟩
theorem Pd:∀ js:List Int,PyData.canLayAll0 (js.map PyData.int)=true
 | []=>by simp only[List.map_nil,PyData.canLayAll0]
 |j :: js=>by simp only[List.map_cons,PyData.canLayAll0,PyData.canLay0,Pd js,Bool.and_true]
theorem Ru.shaped {js:List Int}(h:Ru D js):SeqAt.shaped D=true:=by
 cases h with
 |row=>decide +kernel
 |ends w hw js hl=>
   have a:=E7 PyData.int 0 js λz hz=>by simp only[PyData.depth];omega
   have b:PyData.strOk w=true:=by rcases hw with rfl|rfl<;>decide +kernel
   simp only[SeqAt.shaped,PyData.canLay0,PyData.canLayAll0,PyData.depth,PyData.depthAll,b,Pd js,Bool.and_true,Bool.true_and];exact A0D (by omega)
def ad0 {x:PyData}{xs:List PyData}(F:Is K H (.tuple (x :: xs)) v)(hs:SeqAt.shaped (.tuple (x :: xs))=true)(h:H a=some (.tup []))(k:Q (.bl false) H):ab1 K v (.ref a) H Q:=Rl (dx:=.tuple (x :: xs)) (dy:=.tuple []) F (Is.of_tup (SqT.of h) .nil) hs (by rfl) k
theorem Mv (F:Fu K "_law_is_rule" Fl f fd)(T:Dy mg)(B4:Fnd P w K mg base 1 "_law_is_whole" ["_law_thing"] (C7 K))(Bz:Fnd P w K mg base 2 "_law_are_wholes" ["_law_thing"] (Dh K))(Bu:Fnd P w K mg base 1 "_law_are_names" ["_law_thing"] (Co K)):FnOk P w K mg base CX0 3 f fd ["_law_names_here","_law_rule"] (F0 K):=by
 refine F.ok Dc (λvs H Q E h=>?_) (λcdv A outer s H vs Q E Z h=>?_)
 . obtain⟨nv,v,D,js,rfl,_⟩:=h;rfl
 obtain⟨nv,v,D,js,rfl,hI,hR,k⟩:=h;have hu:=Bh Z;have O:=Bg Z;have a2:=hR.shaped
 with_reducible refine⟨_,(A2 (Av (PW.pt (E9 (Bj (B8 (A6 (Al (K:=K)) ⋯ T.b_isinstance PyProof.Rows.Boot.«isinstance» (A0 (pv 1) (A0 (B9 (v:=.ty "tuple") ⋯ T.b_tuple PyProof.Rows.Boot.«tuple» ⋯) A1))))) (E9 (A7 (Aq (K:=K) O) (pv 1) (B0 A1) (Ac _)) (Dj (Bj (B8 (A6 (Al (K:=K)) ⋯ T.b_isinstance PyProof.Rows.Boot.«isinstance» (A0 (A9 (A4 (K:=K) hu) (pv 1) A3 (by ac_rfl)) (A0 (B9 (v:=.ty "str") ⋯ T.b_str PyProof.Rows.Boot.«str» ⋯) A1))))))))) (A5 (Aa E6)) Ad)
  (A2 (Ai (i:=2) Dc.nd ⋯ (by eq_refl) (A9 (A4 (K:=K) hu) (pv 1) A3 (by ac_rfl)))
  (A2 (Av (A7 (Aq (K:=K) O) (pv 2) Af (Ac _)) (A2 (C0 (i:=3) ["_law_one"] ["_law_names_here"] [0] ⋯ ⋯ ⋯ Dc.nd ⋯ ⋯ (Ao (K:=K) hu (Bl (Q7 (K:=K)) (pv 1) (Bk A3) (Bk A3))) (λ_ _ _ _=>(Ae (i:=0) (by with_unfolding_all (show(["_law_one","_law_names_here"]:List Str).Nodup;decide +kernel)) ⋯ (by eq_refl))) (Ap ∅) (λ_ _ _ _=>(Bw (PW.pt (R7 (B8 (A6 (Al (K:=K)) ⋯ T.b_isinstance PyProof.Rows.Boot.«isinstance» (A0 (pv 0) (A0 (B9 (v:=.ty "str") ⋯ T.b_str PyProof.Rows.Boot.«str» ⋯) A1)))) (Q6 (A7 (D3 (K:=K) O) (pv 0) (pv 1) ⋯)))))) (λ_ _ _ _=>(pv 0)))
  (A5 (Aa (Cm (At (Aq (K:=K) O) (A6 (Ab (K:=K)) ⋯ T.b_len PyProof.Rows.Boot.«len» (A0 (pv 1) A1)) A3 (Ac _)) (Cm (At (Aq (K:=K) O) (A6 (Ab (K:=K)) ⋯ T.b_len PyProof.Rows.Boot.«len» (A0 (pv 3) A1)) A3 (Ac _)) (D9 (An Bz (Z.mono ∅) ⋯ (A0 (Bl (Q7 (K:=K)) (pv 1) (Bk A3) Dd) A1)))))))) Ad)
  (A2 (Av (A7 (D3 (K:=K) O) (pv 2) (B0 (A0 Af (A0 Af A1))) ⋯) (A5 (Aa (Cm (At (Aq (K:=K) O) (A6 (Ab (K:=K)) ⋯ T.b_len PyProof.Rows.Boot.«len» (A0 (pv 1) A1)) A3 (Ac _)) (D9 (An Bz (Z.mono ∅) ⋯ (A0 (A9 (A4 (K:=K) hu) (pv 1) A3 (by ac_rfl)) A1)))))) Ad)
  (A2 (Av (A7 (Aq (K:=K) O) (pv 2) Af (Ac _)) (A5 (Aa (Cm (At (Aq (K:=K) O) (A6 (Ab (K:=K)) ⋯ T.b_len PyProof.Rows.Boot.«len» (A0 (pv 1) A1)) A3 (Ac _)) (Cm (An Bu (Z.mono ∅) ⋯ (A0 (A9 (A4 (K:=K) hu) (pv 1) A3 (by ac_rfl)) A1)) (D9 (An B4 (Z.mono ∅) ⋯ (A0 (A9 (A4 (K:=K) hu) (pv 1) A3 (by ac_rfl)) A1))))))) Ad)
  (A2 (Ai (i:=4) Dc.nd ⋯ (by eq_refl) (T3 (E1 Af A3 (E1 Af A3 (E1 Af A3 (E1 Af A3 Su)))) ⋯ ⋯ ∅ ∅))
  (A5 (Aa (Cm (At (Aq (K:=K) O) (Ug hu (pv 4) (pv 2) A3 (by with_unfolding_all exact⟨rfl,rfl,rfl,rfl⟩)) (A6 (Ab (K:=K)) ⋯ T.b_len PyProof.Rows.Boot.«len» (A0 (pv 1) A1)) (Ac _)) (D9 (An Bz (Z.mono ∅) ⋯ (A0 (Bl (Q7 (K:=K)) (pv 1) (Bk A3) Dd) A1)))))))))))),?_⟩
 rcases hR.at hI with ⟨ta,rfl,rfl,rfl,Y⟩|⟨ta,ja,w,rfl,rfl,hw,Y,hSj,hl⟩
 . symm;refine Ep hI ⟨_,rfl,?_⟩;rw[if_neg (by simp[Wb])];symm;refine B3 ∅ λt1 H1 ht1 U h1=>?_;refine ad0 (Is.mono U _ _ hI) a2 h1 ?_;symm;refine Au (U.seqT Y) (show atI [V.str "row"] ((0:Nat):Int)=_ from Ag rfl) ?_;symm;refine F7 (TyOf.str _) (b:=true) (by rfl) ?_;symm;refine Au (U.seqT Y) (show atI [V.str "row"] ((0:Nat):Int)=_ from Ag rfl) ?_;symm;refine Gw (λh=>?_) (λ_=>?_)
   . injection h with h;exact absurd h ∅
   symm;refine B3 (Ak (by simp)) λt2 H2 ht2 e2 h2=>?_;refine Hj (ns:=["last","first"]) (.inr (SqT.of h2)) ?_;symm;rw[A0J ∅];symm;refine Gw (λh=>?_) (λ_=>?_)
   . injection h with h;exact absurd h ∅
   symm;refine Zk λq3 H3 hq3 e3 h3=>?_;symm;refine Sx [(.inr "row",.int 1),(.inr "above",.int 3),(.inr "beside",.int 3),(.inr "turned",.int 2)] h3 (by rfl) ∅ λH4 e4 h4=>?_;symm;refine Uy h4 ?_;symm;refine⟨_,DGet.k (k:=Sum.inr ("row":Str)) h4,?_⟩;symm;have e24:Same H2 H4:=e3.off hq3 e4;have a1:=(U.trans e2).trans e24;refine M5 (a1.seqT Y) ?_;show ab1 K (V.int 1) (V.int 1) H4 _;symm;refine Z8 (a1.seqT Y) λq5 H5 e5 h5=>?_;rw[Fw (by omega)] at h5;symm;refine⟨_,[],rfl,Is.of_tup h5 .nil,by simp,λH6 e6=>?_⟩;exact k H6 ((a1.trans e5).trans e6)
 symm;refine Ep hI ⟨_,rfl,?_⟩;rw[if_neg (by simp[Wb])];symm;refine B3 ∅ λt1 H1 ht1 U h1=>?_;refine ad0 (Is.mono U _ _ hI) a2 h1 ?_;symm;refine Au (U.seqT Y) (show atI [V.str w,V.ref ja] ((0:Nat):Int)=_ from Ag rfl) ?_;symm;refine F7 (TyOf.str _) (b:=true) (by rfl) ?_;symm;refine Au (U.seqT Y) (show atI [V.str w,V.ref ja] ((0:Nat):Int)=_ from Ag rfl) ?_;symm;refine Gw (λh=>?_) (λ_=>?_)
 . injection h with h;rcases hw with rfl|rfl<;>exact absurd h ∅
 symm;refine B3 (Ak (by simp)) λt2 H2 ht2 e2 h2=>?_;refine Hj (ns:=["last","first"]) (.inr (SqT.of h2)) ?_;symm;rw[A0K (by rcases hw with rfl|rfl<;>decide)]
 have a0:=U.trans e2;symm;refine M5 (a0.seqT Y) ?_;symm;rw[if_pos (by simp)];symm;refine Au (a0.seqT Y) (show atI [V.str w,V.ref ja] ((1:Nat):Int)=_ from Ag rfl) ?_;symm;refine⟨_,js,rfl,Is.of_tup (a0.seqT hSj) (Jz js),hl,λH3 e3=>?_⟩;exact k H3 (a0.trans e3)
theorem Rz (F:Fu K "_law_refs" Jk f fd)(T:Dy mg):FnOk P w K mg base CX0 1 f fd ["_law_rule"] (Cy K):=by
 refine F.ok Qh (λvs H Q E h=>?_) (λcdv A outer s H vs Q E hr h=>?_)
 . obtain⟨v,D,js,rfl,_⟩:=h;rfl
 obtain⟨v,D,js,rfl,hI,hR,k⟩:=h;have hu:=Bh hr;have hq:=Bg hr
 with_reducible refine⟨_,(A2 (Av (A7 (D3 (K:=K) hq) (A9 (A4 (K:=K) hu) (pv 0) A3 (by ac_rfl)) (B0 (A0 Af (A0 Af A1))) ⋯) (A5 (Aa (A9 (A4 (K:=K) hu) (pv 0) A3 (by ac_rfl)))) Ad)
  (A5 (Aa (Bl (Q7 (K:=K)) (pv 0) (Bk (Ug hu (T3 (E1 Af A3 (E1 Af A3 Su)) ⋯ ⋯ ∅ ∅) (A9 (A4 (K:=K) hu) (pv 0) A3 (by ac_rfl)) A3 (by with_unfolding_all exact⟨rfl,rfl,rfl,rfl⟩))) Dd)))),?_⟩
 rcases hR.at hI with ⟨ta,rfl,rfl,rfl,U⟩|⟨ta,Z,w,rfl,rfl,hw,U,hSj,hl⟩
 . symm;refine Au U (show atI [V.str "row"] ((0:Nat):Int)=_ from Ag rfl) ?_;symm;refine B3 (Ak (by simp)) λt2 H2 ht2 O h2=>?_;refine Hj (ns:=["last","first"]) (.inr (SqT.of h2)) ?_;symm;rw[A0J ∅];symm;refine Zk λq3 H3 hq3 e3 h3=>?_;symm;refine Sx [(.inr "ask",.int 3),(.inr "called",.int 2)] h3 (by rfl) ∅ λH4 e4 h4=>?_;symm;refine Uy h4 ?_;have Y:Same H2 H4:=e3.off hq3 e4;symm;refine Au ((O.trans Y).seqT U) (show atI [V.str "row"] ((0:Nat):Int)=_ from Ag rfl) ?_;symm;refine⟨_,DGet.k (k:=Sum.inr ("row":Str)) h4,?_⟩;refine⟨1,rfl,?_⟩;symm;refine Z8 ((O.trans Y).seqT U) λq5 H5 e5 h5=>?_;symm;refine k q5 H5 ((O.trans Y).trans e5) ?_;rw[Fw (by omega)] at h5;exact h5
 symm;refine Au U (show atI [V.str w,V.ref Z] ((0:Nat):Int)=_ from Ag rfl) ?_;symm;refine B3 (Ak (by simp)) λt2 H2 ht2 O h2=>?_;refine Hj (ns:=["last","first"]) (.inr (SqT.of h2)) ?_;symm;rw[A0K (by rcases hw with rfl|rfl<;>decide)]
 symm;refine Au (O.seqT U) (show atI [V.str w,V.ref Z] ((1:Nat):Int)=_ from Ag rfl) ?_;symm;exact k Z H2 O (O.seqT hSj)
def Db (K:W.Frag):Sp:=λvs H Q _=>∃ v w ns ps,vs=[v,.str w]/\Is K H (hfD ns ps) v/\Half ns ps/\ns.length<=7/\(w = "last" \/ w = "first")/\∀ l H',H l=none->Same H H'->H' l=some (.lst ((Op (decide (w = "last")) (Ck ps) ns).map V.str))->Q (.ref l) H'
theorem ai9 {w:Str}{ns:List Str}{ps:List (Str×Str)}(h:KyO ns ps ks qs)(Y:Half ns ps)(hw:w = "last" \/ w = "first"):(ns.filter λz=>!decide (z∈qs.map λp=>if w = "first" then p.2 else p.1))=Op (decide (w = "last")) (Ck ps) ns:=by
 unfold Op;refine List.filter_congr λz hz=>?_;rw[A15,A3O,A3O,decide_eq_false_iff_not,A32];have mem:∀ {x y},Way ps x y->x∈ns/\y∈ns:=λw=>Y.way_mem w;rcases hw with rfl|rfl
 . simp only[show ¬ ("last":Str) = "first" by decide,if_false];constructor
   . intro h1 y U h2;exact h1 (A0A.mpr ⟨(z,y),(h.mem z y).mpr ⟨hz,wayB_iff.mp (show Ck ps z y=true from h2)⟩,rfl⟩)
   intro h1 h2;obtain⟨⟨x,y⟩,O,rfl⟩:=A0A.mp h2;have F:=(h.mem x y).mp O;exact h1 y (mem F.2).2 (show Ck ps x y=true from wayB_iff.mpr F.2)
 simp only[if_true];constructor
 . intro h1 y U h2;rw[A0H ∅,A0J ∅] at h2;exact h1 (A0A.mpr ⟨(y,z),(h.mem y z).mpr ⟨U,wayB_iff.mp h2⟩,rfl⟩)
 intro h1 h2;obtain⟨⟨x,y⟩,O,rfl⟩:=A0A.mp h2;have F:=(h.mem x y).mp O;refine h1 x F.1 ?_;rw[A0H ∅,A0J ∅];exact wayB_iff.mpr F.2
theorem S7 (F:Fu K "_law_ends" K7 f fd)(T:Dy mg)(Ar:Fnd P w K mg base 2 "_law_key" ["_law_half_here"] (Cj K)):FnOk P w K mg base CX0 3 f fd ["_law_half_here","_law_word_here"] (Db K):=by
 refine F.ok Lv (λvs H Q E h=>?_) (λcdv A outer s H vs Q E hr h=>?_)
 . obtain⟨v,w,ns,ps,rfl,_⟩:=h;rfl
 obtain⟨v,w,ns,ps,rfl,hI,hH,h7,hw,k⟩:=h;have hu:=Bh hr;have hq:=Bg hr
 with_reducible refine⟨_,(A2 (Ai (i:=2) Lv.nd ⋯ (by with_unfolding_all exact A35 rfl) (As ["_law_pair"] ["_law_word_here"] [1] ⋯ ⋯ ⋯ (Ao (K:=K) hu (A9 (A4 (K:=K) hu) (An Ar (hr.mono ∅) ⋯ (A0 (pv 0) A1)) A3 (by ac_rfl))) (λ_ _ _ _=>(Ae (i:=0) (by with_unfolding_all (show(["_law_pair","_law_word_here"]:List Str).Nodup;decide +kernel)) ⋯ (by eq_refl))) (Ap ∅) (λ_ _ _ _=>B2) (λ_ _ _ _=>(A9 (A4 (K:=K) hu) (pv 0) (Bd Mk ⋯ T.b_int PyProof.Rows.Boot.«int» (A0 (At (Aq (K:=K) hq) (pv 1) Af (Ac _)) A1)) (by ac_rfl)))))
  (A5 (Aa (As ["_law_name"] ["_law_taken"] [2] ⋯ ⋯ ⋯ (Ao (K:=K) hu (A9 (A4 (K:=K) hu) (pv 0) A3 (by ac_rfl))) (λ_ _ _ _=>(Ae (i:=0) (by with_unfolding_all (show(["_law_name","_law_taken"]:List Str).Nodup;decide +kernel)) ⋯ (by eq_refl))) (Ap ∅) (λ_ _ _ _=>(Bw (A7 (Fx (K:=K) hq) (pv 0) (pv 1) ⋯))) (λ_ _ _ _=>(pv 0)))))),?_⟩
 symm;refine⟨v,ns,ps,rfl,hI,hH,h7,λt a b ks qs H1 e1 _ _ hA hO hql=>?_⟩;obtain⟨hSt,_,zs,O,hL⟩:=hA;have hzl:zs.length=qs.length:=Md hL;symm;refine Au hSt (show atI [V.ref a,V.ref b] ((1:Nat):Int)=_ from Ag rfl) ?_;refine Hq (SqL.of O) ?_;refine C4 (K:=K) (Bc (xs:=zs)) qs hzl.symm (λ_=>true) (λp=>PyData.str (if w = "first" then p.2 else p.1)) (λ_=>rfl) (by omega) (λH' e=>SqL.of (e _ _ O)) (λi p v1 H2 R R' hp hv Z U _=>?_) (λl ys H2 hl Z h2 a2=>?_)
 . obtain⟨y,hy,a1⟩:=IsL.at (IsL.mono Z _ _ hL) (show(qs.map prD)[i]? = some (prD p) by rw[A06,hp];rfl);rw[hv] at hy
   cases hy;symm
   by_cases hf:w = "first"
   . rw[A0D (show V.str w=V.str "first" by rw[hf])];refine Ys a1 ?_;refine U rfl _ _ (.refl _) ?_;simp only[Is,if_pos hf]
   rw[A0H (show ¬ V.str w=V.str "first" from λh=>hf (V.str.inj h))];refine Yd a1 ?_;refine U rfl _ _ (.refl _) ?_;simp only[Is,if_neg hf]
 rw[A3B.mpr λ_ _=>rfl] at a2;have a0:=IsL.str_eq (ns:=qs.map λp=>if w = "first" then p.2 else p.1) (by rw[A1H];exact a2)
 subst a0;symm;have Y:=e1.trans Z;refine Hx (hI.hf_fz Y.fz) λnv hN=>?_;refine P0 hN (λz=>!decide (z∈qs.map λp=>if w = "first" then p.2 else p.1)) PyData.str (λ_=>rfl) (by omega) (λi z H3 R R' hz e3 U hR'=>?_) (λp ys H3 hp e3 h3 hL3=>?_)
 . symm;refine Yh (SqL.of (e3 _ _ h2)) ?_;symm;refine aj9 (λO=>?_) (λO=>?_)
   . symm;exact U O _ _ (.refl _) (by simp only[Is])
   exact hR' O _ (.refl _)
 have a0:=IsL.str_eq hL3;subst a0;rw[ai9 hO hH hw] at h3;symm;exact k p H3 (Y.free hp) (Y.trans e3) h3
theorem Gh {α β:Type}{σ:L2.St}{k:Nat}{js:List Nat}(hw:Eo J xs G)(as:List α)(hl:as.length=xs.length)(M:α->β->Prop)(T:Addr->Hp->β->V->Prop)(hT:∀ p H H' b y,ExtBut p H H'->Fz H H'->T p H b y->T p H' b y)(hz:xs.length<=1000000)(hG:∀ H',Same H H'->G H')
 (hs:∀ p (i:Nat) a v H1 (R:VK) (R':Hp->Prop),(∃ acc,H1 p=some (.lst acc))->as[i]? = some a->xs[i]? = some v->Same H H1->(∀ b y H2,Same H1 H2->M a b->T p H2 b y->R y H2)->g v (List.replicate k none++Mm σ js) H1 fun σ2 H2=>tt σ2 H2 λc Z=>if c=true then te σ2 Z R else R' Z)
 (hd:∀ p ys (bs:List β) H',H p=none->Same H H'->H' p=some (.lst ys)->ys.length=as.length->bs.length=as.length->(∀(i:Nat) a b y,as[i]? = some a->bs[i]? = some b->ys[i]? = some y->M a b/\T p H' b y)->Q (.ref p) H'):Kw k js g tt te σ J H Q:=by
 refine Fq hw (λp i acc H1=>Same H H1/\acc.length=i/\∃ bs:List β,bs.length=i/\∀(j:Nat) a b y,as[j]? = some a->bs[j]? = some b->acc[j]? = some y->M a b/\T p H1 b y) (λp H' hp e h=>⟨e,rfl,[],rfl,λj a b y _ h=>by cases h⟩) (λp i acc H1 h=>hG H1 h.1) (λp i x acc H1 hp hx hi a2 U F=>?_) (λp acc H1 hp U a2 F=>?_)
 . obtain⟨e1,a1,bs,a3,F⟩:=F;refine hs p i as[i] x H1 _ _ ⟨acc,U⟩ (A00 (hl ▸ hi)) hx e1 λb y H2 O hM a4=>?_;refine J3 hz hi a2 (O _ _ U) λZ e3 h3=>?_;have a0:Fz H2 Z:=e3.fzL (O _ _ U);refine⟨λc o h=>e3 c o (ne_of_none h hp) ((e1.trans O) _ _ h),by rw[A08,A1C,a1],bs++[b],by rw[A08,A1C,a3],λj a b' y' ha Y hy=>?_⟩;rcases A3C j i with g|g
   . rw[A1B (by omega)] at Y hy;obtain⟨h4,h5⟩:=F j a b' y' ha Y hy;exact⟨h4,hT _ _ _ _ _ (O.but.trans e3) (O.fz.trans a0) h5⟩
   have hj:j=i:=by have:=(A03.mp Y).1;rw[A08,A1C] at this;omega
   subst hj;rw[A17 (by omega),show j-bs.length=0 by omega] at Y;rw[A17 (by omega),show j-acc.length=0 by omega] at hy
   cases Y
   cases hy;rw[A00 (hl ▸ hi)] at ha
   cases ha;exact⟨hM,hT _ _ _ _ _ e3 a0 a4⟩
 obtain⟨e1,a1,bs,a3,F⟩:=F;exact hd p acc bs H1 hp e1 U (by omega) (by omega) F
def hfE (h:List Str×List (Str×Str)):PyData:=hfD h.1 h.2
def kyE (e:List Str×List (Str×Str)):PyData:=kyD e.1 e.2
def KyL (hs ks:List (List Str×List (Str×Str))):Prop:=ks.length=hs.length/\∀(i:Nat) h e,hs[i]? = some h->ks[i]? = some e->KyO h.1 h.2 e.1 e.2
theorem KyL.iff {ks O U:List (List Str×List (Str×Str))}(h:KyL hs ks)(h':KyL O U)(hn:∀ e∈hs,e.1.Nodup)(a1:∀ e∈O,e.1.Nodup):ks=U↔(hs.length=O.length/\∀(i:Nat) a b,hs[i]? = some a->O[i]? = some b->AlH a.1 a.2 b.1 b.2):=by
 constructor
 . rintro rfl;refine⟨h.1.symm.trans h'.1,λi a b ha F=>?_⟩;have Y:=A00 (show i<ks.length by rw[h.1];exact(A03.mp ha).1);exact((h.2 i a _ ha Y).iff (h'.2 i b _ F Y) (hn a (A05 ha)) (a1 b (A05 F))).mp ⟨rfl,rfl⟩
 intro ⟨hl,hA⟩;refine List.ext_getElem? λi=>?_;have h1:=h.1;have h2:=h'.1;rcases A3C i hs.length with hi|hi
 . have ha:=A00 hi;have F:=A00 (show i<O.length by omega);have Z:=A00 (show i<ks.length by omega);have a0:=A00 (show i<U.length by omega);obtain⟨g1,g2⟩:=((h.2 i _ _ ha Z).iff (h'.2 i _ _ F a0) (hn _ (A05 ha)) (a1 _ (A05 F))).mpr (hA i _ _ ha F);rw[Z,a0,Prod.ext g1 g2]
 rw[A31 (by omega),A31 (by omega)]
theorem Wx:∀ {ks ks':List (List Str×List (Str×Str))},PyData.eqvAll (ks.map kyE) (ks'.map kyE)=true↔ks=ks'
 | [],[]=>by simp[PyData.eqvAll]
 | [],_ :: _=>by simp[PyData.eqvAll]
 |_ :: _,[]=>by simp[PyData.eqvAll]
 | (a,b) :: ks,(c,d) :: ks'=>by rw[A0P,A0P];simp only[PyData.eqvAll,Bool.and_eq_true];rw[Wx,show kyE (a,b)=kyD a b from rfl,show kyE (c,d)=kyD c d from rfl,Ux,List.cons.injEq,Prod.mk.injEq]
def KyL.sh {ks:List (List Str×List (Str×Str))}(h:KyL hs ks)(g:∀ e∈hs,Half e.1 e.2):SeqAt.shaped (.list (ks.map kyE))=true:=by
 have f:∀ e∈ks,D0 (kyE e)=true/\(kyE e).depth<=4:=λe F=>by obtain⟨i,hi,rfl⟩:=A1I F;have ha:=A00 (show i<hs.length by rw[<- h.1];exact hi);exact(h.2 i _ _ ha (A00 hi)).facts (g _ (A05 ha))
 refine shp ?_ ?_
 . simp only[D0];exact Eu _ ks λe F=>(f e F).1
 have:=E7 kyE 4 ks λe F=>(f e F).2;simp only[PyData.depth];omega
def KyO.row {ns:List Str}{ps:List (Str×Str)}(h:KyO ns ps ks qs)(g:Half ns ps):decide (V.int (2*(qs.length:Int))=V.int ((ns.length:Int)*((ns.length:Int)-1)))=decide (unP ns ps=[]):=by
 have F:qs.Perm (clP ns ps):=Iw h.nd (V3 g.names.1 g.names.1) λ(x,y)=>by rw[h.mem,ag1];exact⟨λ⟨a,b⟩=>⟨a,(g.way_mem b).2,b⟩,λ⟨a,_,b⟩=>⟨a,b⟩⟩
 have O:=T8 (ns:=ns) (ps:=ps) λx=>g.irrefl;rw[decide_eq_decide,V.int.injEq,F.length_eq,<- A1D];omega
theorem ar2 {ns:List Str}{ps:List (Str×Str)}{last:Bool}{ds:List (List Str×List (Str×Str))}(hl:ds.length=(Op last (Ck ps) ns).length)(hd:∀(i:Nat) z d,(Op last (Ck ps) ns)[i]? = some z->ds[i]? = some d->d.1=Gv ns z/\aB8 ns ps d.1 d.2):(ns≠[]/\hs.length=ds.length/\∀(i:Nat) a b,hs[i]? = some a->ds[i]? = some b->AlH a.1 a.2 b.1 b.2)↔ap4 last (Ck ps) ns (hs.map λh=>(h.1,Ck h.2)):=by
 unfold ap4;rw[A01,hl];refine and_congr Iff.rfl (and_congr_right λa0=>?_);constructor
 . intro h i z e hz Z;rw[A06] at Z;obtain⟨a,ha,rfl⟩:=A0Z.mp Z;have O:=A00 (show i<ds.length by rw[hl];exact(A03.mp hz).1);obtain⟨h1,h2⟩:=hd i z _ hz O;obtain⟨F,Y⟩:=h i a _ ha O;rw[h1] at F;refine⟨F,λx U y=>?_⟩;rw[wayB_iff,wayB_iff,Y x U y,h2.way,h1];exact⟨λ⟨_,b,c⟩=>⟨b,c⟩,λ⟨b,c⟩=>⟨(F x).mp U,b,c⟩⟩
 intro h i a b ha O;have hz:=A00 (show i<(Op last (Ck ps) ns).length by rw[<- hl];exact(A03.mp O).1);obtain⟨h1,h2⟩:=hd i _ b hz O;obtain⟨F,Y⟩:=h i _ (a.1,Ck a.2) hz (by rw[A06,ha];rfl);refine⟨λx=>by rw[h1];exact F x,λx U y=>?_⟩;have:=Y x U y;rw[wayB_iff,wayB_iff] at this;rw[this,h2.way,h1];exact⟨λ⟨b,c⟩=>⟨(F x).mp U,b,c⟩,λ⟨_,b,c⟩=>⟨b,c⟩⟩
def Dw (K:W.Frag):Sp:=λvs H Q _=>∃(v F:V) (hl:Addr) (us:List V) (ns:List Str) (ps:List (Str×Str)) (D:PyData) (js:List Int) (hs:List (List Str×List (Str×Str))),vs=[v,F,.ref hl]/\Is K H (hfD ns ps) v/\Half ns ps/\ns.length<=7/\Is K H D F/\Ru D js/\H hl=some (.lst us)/\IsL K H (hs.map hfE) us/\(∀ h∈hs,Half h.1 h.2/\h.1.length<=7)/\hs.length<=1000/\∀ b H',Same H H'->(b=true↔al7 D ns ps (hs.map λh=>(h.1,Ck h.2)))->Q (.bl b) H'
theorem Uq {α:Type}{f:α->PyData}{K:W.Frag}{H:Hp}:∀ {bs:List α} {ys:List V},ys.length=bs.length->(∀(i:Nat) b y,bs[i]? = some b->ys[i]? = some y->Is K H (f b) y)->IsL K H (bs.map f) ys
 | [],[],_,_=>.nil
 | [],_ :: _,hl,_=>by simp at hl
 |_ :: _,[],hl,_=>by simp at hl
 |b :: bs,y :: ys,hl,hT=>.cons (hT 0 b y rfl rfl) (Uq (by simpa using hl) λi b y F O=>hT (i+1) b y F O)
theorem V7 {σ:L2.St}{k:Nat}{js:List Nat}(hw:Eo J xs G)(hs:List (List Str×List (Str×Str)))(hl:IsL K H (hs.map hfE) xs)(hH:∀ h∈hs,Half h.1 h.2)(hz:xs.length<=1000000)(hG:∀ H',Same H H'->G H')
 (Y:∀(i:Nat) h v H1 (R:VK) (R':Hp->Prop),h∈hs->Is K H1 (hfD h.1 h.2) v->Same H H1->(∀ t a b ks qs H2,Same H1 H2->H1 a=none->H1 b=none->KyA K H2 t a b ks qs->KyO h.1 h.2 ks qs->qs.length<=49->R (.ref t) H2)->g v (List.replicate k none++Mm σ js) H1 fun σ2 H2=>tt σ2 H2 λc H3=>if c=true then te σ2 H3 R else R' H3)
 (hd:∀ p ks H',H p=none->Same H H'->KyL hs ks->Is K H' (.list (ks.map kyE)) (.ref p)->SeqAt.shaped (.list (ks.map kyE))=true->Q (.ref p) H'):Kw k js g tt te σ J H Q:=by
 have a3:hs.length=xs.length:=by rw[<- IsL.length hl,A01]
 refine Gh (β:=List Str×List (Str×Str)) hw hs a3 (λh e=>KyO h.1 h.2 e.1 e.2) (λp H e y=>∃ t a b,y = .ref t/\a≠p/\b≠p/\KyA K H t a b e.1 e.2) (λp H H' b y e fz h=>?_) hz hG (λp i h v H1 R R' F O hv U hR=>?_) (λp ys bs H1 F U h1 a4 a0 hP=>?_)
 . obtain⟨t,a,b',rfl,h1,h2,h3⟩:=h;exact⟨t,a,b',rfl,h1,h2,h3.but e fz h1 h2⟩
 . obtain⟨acc,F⟩:=F;obtain⟨y,Z,a1⟩:=IsL.at (IsL.mono U _ _ hl) (show(hs.map hfE)[i]? = some (hfE h) by rw[A06,O];rfl);rw[hv] at Z
   cases Z;exact Y i h v H1 R R' (A05 O) a1 U λt a b ks qs H2 e2 ha a2 hA hO _=>hR (ks,qs) _ H2 e2 hO ⟨t,a,b,rfl,Ne.symm (ne_of_none F ha),Ne.symm (ne_of_none F a2),hA⟩
 have hK:KyL hs bs:=⟨a0,λi h e O he=>(hP i h e _ O he (A00 (show i<ys.length by rw[a4];exact(A03.mp O).1))).1⟩;refine hd p bs H1 F U hK (Is.of_lst (SqL.of h1) (Uq (by omega) λi b y Y Z=>?_)) (hK.sh hH);obtain⟨_,t,a,b',rfl,_,_,hA⟩:=hP i _ b y (A00 (show i<hs.length by rw[<- a0];exact(A03.mp Y).1)) Y Z;exact hA.is
def as2 {ns:List Str}(h:∀ z∈ns,O0 z=true):SeqAt.shaped (nmD ns)=true:=by
 refine shp ?_ ?_
 . simp only[nmD,D0];exact Eu _ ns λz hz=>by simp only[D0];exact(Vt (h z hz)).1
 have a:=E7 PyData.str 0 ns λz hz=>by simp only[PyData.depth];omega
 simp only[nmD,PyData.depth];omega
def Y3 {ns:List Str}:PyData.eqv (nmD ns) (.tuple [])=decide (ns=[]):=by cases ns<;>simp[nmD,PyData.eqv,PyData.eqvAll]
theorem L1 (F:Fu K "_law_halves_so" Eh f fd)(T:Dy mg)(Ar:Fnd P w K mg base 2 "_law_key" ["_law_half_here"] (Cj K))(Bp:Fnd P w K mg base 2 "_law_only" ["_law_half_here","_law_left"] (D8 K))(Bq:Fnd P w K mg base 3 "_law_ends" ["_law_half_here","_law_word_here"] (Db K))(Jy:Fnd P w K mg base 1 "_law_made" ["_law_rule","_law_halves"] (Lx K)):FnOk P w K mg base CX0 4 f fd ["_law_half_here","_law_rule","_law_halves"] (Dw K):=by
 refine F.ok Az (λvs H Q E h=>?_) (λcdv A outer s H vs Q E Y h=>?_)
 . obtain⟨v,rv,hl,us,ns,ps,D,js,hs,rfl,_⟩:=h;rfl
 obtain⟨v,rv,hl,us,ns,ps,D,js,hs,rfl,hI,hH,h7,hID,hR,hhl,aD,a3,h1000,k⟩:=h;have hu:=Bh Y;have O:=Bg Y;have hn:=hH.names.1
 with_reducible refine⟨_,(A2 (Ai (i:=3) Az.nd ⋯ (by with_unfolding_all exact A35 rfl) (A9 (A4 (K:=K) hu) (pv 0) A3 (by ac_rfl)))
  (A2 (Ai (i:=4) Az.nd ⋯ (by eq_refl) (A9 (A4 (K:=K) hu) (An Ar (Y.mono ∅) ⋯ (A0 (pv 0) A1)) A3 (by ac_rfl)))
  (A2 (Av (A7 (Aq (K:=K) O) (A9 (A4 (K:=K) hu) (pv 1) A3 (by ac_rfl)) Af (Ac _)) (A5 (Aa (At (Aq (K:=K) O) (B1 Cw A3 (A6 (Ab (K:=K)) ⋯ T.b_len PyProof.Rows.Boot.«len» (A0 (pv 4) A1))) (B1 Cw (A6 (Ab (K:=K)) ⋯ T.b_len PyProof.Rows.Boot.«len» (A0 (pv 3) A1)) (B1 Np (A6 (Ab (K:=K)) ⋯ T.b_len PyProof.Rows.Boot.«len» (A0 (pv 3) A1)) A3)) (Ac _)))) Ad)
  (A2 (Av (A7 (D3 (K:=K) O) (A9 (A4 (K:=K) hu) (pv 1) A3 (by ac_rfl)) (B0 (A0 Af (A0 Af A1))) ⋯) (A2 (Ai (i:=5) Az.nd ⋯ (by eq_refl) (An Bq (Y.mono ∅) ⋯ (A0 (pv 0) (A0 (A9 (A4 (K:=K) hu) (pv 1) A3 (by ac_rfl)) A1))))
  (A2 (C0 (i:=6) ["_law_name"] ["_law_half_here","_law_names_here"] [0,3] ⋯ ⋯ ⋯ Az.nd ⋯ ⋯ (Ao (K:=K) hu (pv 5)) (λ_ _ _ _=>(Ae (i:=0) (by with_unfolding_all (show(["_law_name","_law_half_here","_law_names_here"]:List Str).Nodup;decide +kernel)) ⋯ (by with_unfolding_all exact A35 rfl))) (Ap ∅) (λ_ _ _ _=>B2) (λ_ _ _ _=>(An Bp (Y.mono ∅) ⋯ (A0 (pv 1) (A0 (As ["_law_one"] ["_law_name"] [0] ⋯ ⋯ ⋯ (Ao (K:=K) hu (pv 2)) (λ_ _ _ _=>(Ae (i:=0) (by with_unfolding_all (show(["_law_one","_law_name"]:List Str).Nodup;decide +kernel)) ⋯ (by eq_refl))) (Ap ∅) (λ_ _ _ _=>(Bw (A7 (C8 (K:=K) O) (pv 0) (pv 1) (Ac _)))) (λ_ _ _ _=>(pv 0))) A1)))))
  (A5 (Aa (Cm (At (C8 (K:=K) O) (pv 3) (B0 A1) (Ac _)) (D9 (At (Aq (K:=K) O) (As ["_law_one"] [] [] ⋯ ⋯ ⋯ (Ao (K:=K) hu (pv 2)) (λ_ _ _ _=>(Ae (i:=0) (by with_unfolding_all (show(["_law_one"]:List Str).Nodup;decide +kernel)) ⋯ (by eq_refl))) (Ap ∅) (λ_ _ _ _=>B2) (λ_ _ _ _=>(An Ar (Y.mono ∅) ⋯ (A0 (pv 0) A1)))) (As ["_law_one"] [] [] ⋯ ⋯ ⋯ (Ao (K:=K) hu (pv 6)) (λ_ _ _ _=>(Ae (i:=0) (by with_unfolding_all (show(["_law_one"]:List Str).Nodup;decide +kernel)) ⋯ (by eq_refl))) (Ap ∅) (λ_ _ _ _=>B2) (λ_ _ _ _=>(An Ar (Y.mono ∅) ⋯ (A0 (pv 0) A1)))) (Ac _)))))))) Ad)
  (A2 (Av (A7 (Aq (K:=K) O) (A9 (A4 (K:=K) hu) (pv 1) A3 (by ac_rfl)) Af (Ac _)) (A2 (ax8 (Bl (Q7 (K:=K)) (pv 1) (Bk A3) (Bk A3)) (al1 (K:=K) (n:=2) ⋯ (Ce (Ae (i:=7) Az.nd ⋯ (by eq_refl)) (Ce (Ae (i:=8) Az.nd ⋯ (by eq_refl)) Jw))))
  (A2 (Av (PW.pt (E9 (A7 (Aq (K:=K) O) (pv 7) (pv 8) (Ac _)) (E9 (A7 (D3 (K:=K) O) (B0 (A0 (pv 7) (A0 (pv 8) A1))) (pv 4) ⋯) (Dj (A7 (D3 (K:=K) O) (B0 (A0 (pv 8) (A0 (pv 7) A1))) (pv 4) ⋯))))) (A5 (Aa E6)) Ad)
  (A2 (C0 (i:=6) ["_law_pair"] ["_law_names_here","_law_half_here"] [3,0] ⋯ ⋯ ⋯ Az.nd ⋯ ⋯ (Ao (K:=K) hu (Bm (A0 (B0 (A0 (pv 7) (A0 (pv 8) A1))) (A0 (B0 (A0 (pv 8) (A0 (pv 7) A1))) A1)))) (λ_ _ _ _=>(Ae (i:=0) (by with_unfolding_all (show(["_law_pair","_law_names_here","_law_half_here"]:List Str).Nodup;decide +kernel)) ⋯ (by eq_refl))) (Ap ∅) (λ_ _ _ _=>B2) (λ_ _ _ _=>(An Ar (Y.mono ∅) ⋯ (A0 (B0 (A0 (pv 1) (A0 (B1 (B7 (K:=K)) (A9 (A4 (K:=K) hu) (pv 2) A3 (by ac_rfl)) (B0 (A0 (pv 0) A1))) A1))) A1))))
  (A5 (Aa (At (Aq (K:=K) O) (As ["_law_one"] [] [] ⋯ ⋯ ⋯ (Ao (K:=K) hu (pv 2)) (λ_ _ _ _=>(Ae (i:=0) (by with_unfolding_all (show(["_law_one"]:List Str).Nodup;decide +kernel)) ⋯ (by eq_refl))) (Ap ∅) (λ_ _ _ _=>B2) (λ_ _ _ _=>(An Ar (Y.mono ∅) ⋯ (A0 (pv 0) A1)))) (pv 6) (Ac _))))))) Ad)
  (A2 (Ai (i:=9) Az.nd ⋯ (by eq_refl) (An Jy (Y.mono ∅) ⋯ (A0 (pv 1) (A0 (pv 2) A1))))
  (A5 (Aa (Cm (At N7 (pv 9) Fd (Ac _)) (D9 (At (Aq (K:=K) O) (An Ar (Y.mono ∅) ⋯ (A0 (pv 9) A1)) (An Ar (Y.mono ∅) ⋯ (A0 (pv 0) A1)) (Ac _)))))))))))),?_⟩
 symm;refine Hx hI λnv hN=>?_;symm;refine⟨v,ns,ps,rfl,hI,hH,h7,λt a b ks qs H1 e1 _ _ hA hO hql=>?_⟩;obtain⟨hSt,_,zs,Z,hL⟩:=hA;have hzl:zs.length=qs.length:=Md hL;symm;refine Au hSt (show atI [V.ref a,V.ref b] ((1:Nat):Int)=_ from Ag rfl) ?_;symm;have aB:=hN.nm_fz e1.fz;rcases hR.at (Is.mono e1 _ _ hID) with ⟨ta,rfl,rfl,rfl,hS⟩|⟨ta,ja,w,rfl,rfl,hw,hS,hSj,_⟩
 . refine Au hS (show atI [V.str "row"] ((0:Nat):Int)=_ from Ag rfl) ?_;symm;refine S0 aB ?_;symm;refine S0 aB ?_;symm;rw[hzl,hO.row hH];exact k _ H1 e1 ⟨λh=>.inl ⟨rfl,A13 h⟩,λh=>A0D (h.elim (·.2) λ⟨_,_,h,_⟩=>by cases h)⟩
 refine Au hS (show atI [V.str w,V.ref ja] ((0:Nat):Int)=_ from Ag rfl) ?_;symm;refine Gw (λh=>?_) (λ_=>?_)
 . injection h with h;rcases hw with rfl|rfl<;>exact absurd h ∅
 symm;refine Au hS (show atI [V.str w,V.ref ja] ((0:Nat):Int)=_ from Ag rfl) ?_;symm;refine B3 (Ak (by simp)) λt2 H2 ht2 e2 h2=>?_;refine Hj (ns:=["last","first"]) (.inr (SqT.of h2)) ?_;symm;rw[A0K (by rcases hw with rfl|rfl<;>decide)]
 have a7:=e1.trans e2;symm;refine Au (e2.seqT hS) (show atI [V.str w,V.ref ja] ((0:Nat):Int)=_ from Ag rfl) ?_;symm;refine⟨v,w,ns,ps,rfl,hI.hf_fz a7.fz,hH,h7,hw,λl3 H3 hl3 e3 h3=>?_⟩;have a8:=a7.trans e3;have hel:(Op (decide (w = "last")) (Ck ps) ns).length<=7:=A0M (A1K _ _) h7;generalize a6:Op (decide (w = "last")) (Ck ps) ns=es at h3 hel;have hes:∀ z∈es,z∈ns:=λz hz=>by rw[<- a6] at hz;exact(A0V.mp hz).1
 symm;refine Hq (SqL.of h3) ?_;refine Gh (β:=List Str×List (Str×Str)) (Bc (xs:=es.map V.str)) es (by rw[A01]) (λz d=>d.1=Gv ns z/\aB8 ns ps d.1 d.2) (λ_ H d y=>Is K H (hfE d) y) (λp H H' b y e fz h=>Is.fz fz _ _ (Mz _ _) h) (by rw[A01];omega) (λH' e=>SqL.of (e _ _ h3)) (λp i z v1 H4 R R' hp hz hv e4 hR4=>?_) (λp ys ds H4 hp e4 h4 hyl a5 hP=>?_)
 . rw[A06,hz] at hv
   cases hv;symm;have hzm:=hes z (A05 hz);have a0:=a8.trans e4;refine P0 (hN.nm_fz a0.fz) (λy=>!decide (y=z)) PyData.str (λ_=>rfl) (by omega) (λi y H5 R R' hy e5 hR5 hR5'=>?_) (λl5 ys H5 hl5 e5 h5 hL5=>?_)
   . symm;refine M0 (λh=>?_) (λh=>?_)
     . symm;exact hR5 (by simpa using λz=>h (congrArg V.str z)) _ _ (.refl _) (by simp only[Is])
     exact hR5' (by simpa using V.str.inj h) _ (.refl _)
   have hys:=IsL.str_eq hL5;subst hys;symm;refine⟨v,l5,ns,ps,Gv ns z,rfl,hI.hf_fz (a0.trans e5).fz,hH,h7,h5,hn.sublist A1P,λy hy=>(A0V.mp hy).1,λu qs' H6 e6 hu hLf _=>?_⟩;exact hR4 (Gv ns z,qs') _ _ (e5.trans e6) ⟨rfl,hLf⟩ hu
 have a0:=a8.trans e4;symm;refine B3 ∅ λt5 H5 ht5 e5 h5=>?_;have a1:=a0.trans e5;refine Vy (dx:=nmD ns) (dy:=.tuple []) (hN.nm_fz a1.fz) (Is.of_tup (SqT.of h5) .nil) (as2 hH.names.2) (by rfl) ?_;rw[Y3];symm
 have a9:=ar2 (hs:=hs) (ps:=ps) (last:=decide (w = "last")) (ds:=ds) (by rw[a6];exact a5) λi z d hz hd=>by rw[a6] at hz;exact(hP i z d _ hz hd (A00 (show i<ys.length by rw[hyl];exact(A03.mp hz).1))).1
 have aA:al7 (.tuple [.str w,.tuple (js.map PyData.int)]) ns ps (hs.map λh=>(h.1,Ck h.2))↔ap4 (decide (w = "last")) (Ck ps) ns (hs.map λh=>(h.1,Ck h.2)):=⟨λh=>h.elim (λh=>by cases h.1) λ⟨w',J,h1,h2⟩=>by cases h1;exact h2,λh=>.inr ⟨_,_,rfl,h⟩⟩;refine Wu (λZ=>?_) (λZ=>?_)
 . have hne:ns≠[]:=A2H Z;symm;have aC:=a1 _ _ hhl;refine Hq (SqL.of aC) ?_;have hul:us.length=hs.length:=by rw[<- IsL.length aD,A01]
   refine V7 (K:=K) (Bc (xs:=us)) hs (IsL.mono a1 _ _ aD) (λh U=>(a3 h U).1) (by omega) (λH' e=>SqL.of (e _ _ aC)) (λi h v1 H6 R R' U hv e6 hR=>?_) (λp6 k6 H6 hp6 e6 hK6 hI6 hsh6=>?_)
   . symm;refine⟨v1,h.1,h.2,rfl,hv,(a3 h U).1,(a3 h U).2,λt a b ks qs H7 e7 ha Z hA hO O=>?_⟩;exact hR t a b ks qs H7 e7 ha Z hA hO O
   symm;have a4:=e5.trans e6;have h6:=a4 _ _ h4
   have a2:∀ h∈ds,Half h.1 h.2/\h.1.length<=7:=λh U=>by obtain⟨i,hi,rfl⟩:=A1I U;obtain⟨⟨g1,g2⟩,_⟩:=hP i _ _ _ (A00 (show i<es.length by rw[<- a5];exact hi)) (A00 hi) (A00 (show i<ys.length by omega));exact⟨g2.half,by rw[g1];exact A0M (A1K _ _) h7⟩
   have hLd:IsL K H6 (ds.map hfE) ys:=Uq (by omega) λi d y hd hy=>Is.mono a4 _ _ (hP i _ d y (A00 (show i<es.length by rw[<- a5];exact(A03.mp hd).1)) hd hy).2;refine Hq (SqL.of h6) ?_;refine V7 (K:=K) (Bc (xs:=ys)) ds hLd (λh U=>(a2 h U).1) (by omega) (λH' e=>SqL.of (e _ _ h6)) (λi h v1 H7 R R' U hv e7 hR=>?_) (λp7 k7 H7 hp7 e7 hK7 hI7 hsh7=>?_)
   . symm;refine⟨v1,h.1,h.2,rfl,hv,(a2 h U).1,(a2 h U).2,λt a b ks qs H8 e8 ha Z hA hO O=>?_⟩;exact hR t a b ks qs H8 e8 ha Z hA hO O
   symm;refine Rl (Is.mono e7 _ _ hI6) hI7 hsh6 hsh7 ?_;refine k _ H7 ((a0.trans a4).trans e7) ?_;rw[aA,<- a9,show PyData.eqv (.list (k6.map kyE)) (.list (k7.map kyE))=PyData.eqvAll (k6.map kyE) (k7.map kyE) by simp only[PyData.eqv],Wx,hK6.iff hK7 (λh U=>(a3 h U).1.names.1) λh U=>(a2 h U).1.names.1];exact⟨λh=>⟨hne,h⟩,λh=>h.2⟩
 symm;refine k _ H5 a1 ⟨λh=>(by cases h),λh=>?_⟩;rw[aA,<- a9] at h;exact absurd (A13 Z) h.1
def NbR (K:W.Frag)(H:Hp)(m:Int)(y:V):Prop:=∃ t zs,y = .ref t/\SqT K H t zs/\zs[2]? = some (.int m)
def Bo (K:W.Frag):Sp:=λvs H Q _=>∃(v O:V) (F:Addr) (D:PyData) (js ms:List Int) (ys:List V),vs=[v,O,.ref F]/\Is K H D O/\Ru D js/\H F=some (.lst ys)/\ys.length=ms.length/\(∀(i:Nat) m y,ms[i]? = some m->ys[i]? = some y->NbR K H m y)/\(∀ m∈ms,0<=m/\m<=1000000000000)/\ms.length<=1000/\∀ H',Same H H'->Q (.int (if Gx D=true then 1 else ms.sum)) H'
def NbR.same {m:Int}(h:NbR K H m y)(e:Same H H'):NbR K H' m y:=by obtain⟨t,zs,rfl,h1,h2⟩:=h;exact⟨t,zs,rfl,e.seqT h1,h2⟩
theorem Ku (F:Fu K "_law_number_of" Ee f fd)(T:Dy mg)(Ga:Fnd P w K mg base 1 "_law_choose" ["_law_many","_law_some"] (Iz K)):FnOk P w K mg base CX0 2 f fd ["_law_half_here","_law_rule","_law_rows"] (Bo K):=by
 refine F.ok Dr (λvs H Q E h=>?_) (λcdv A outer s H vs Q E hr h=>?_)
 . obtain⟨v,rv,rl,D,js,ms,ys,rfl,_⟩:=h;rfl
 obtain⟨v,rv,rl,D,js,ms,ys,rfl,hID,hR,a1,hyl,hys,hms,h1000,k⟩:=h;have hu:=Bh hr;have Z:=Bg hr
 with_reducible refine⟨_,(A2 (C0 (i:=3) ["_law_row_here"] [] [] ⋯ ⋯ ⋯ Dr.nd ⋯ ⋯ (Ao (K:=K) hu (pv 2)) (λ_ _ _ _=>(Ae (i:=0) (by with_unfolding_all (show(["_law_row_here"]:List Str).Nodup;decide +kernel)) ⋯ (by eq_refl))) (Ap ∅) (λ_ _ _ _=>B2) (λ_ _ _ _=>(A9 (A4 (K:=K) hu) (pv 0) A3 (by ac_rfl))))
  (A2 (Av (A7 (D3 (K:=K) Z) (A9 (A4 (K:=K) hu) (pv 1) A3 (by ac_rfl)) (B0 (A0 Af (A0 Af (A0 Af A1)))) ⋯) (A5 (Aa (A6 (Mi (K:=K) ⋯) ⋯ T.b_sum PyProof.Rows.Boot.«sum» (A0 (pv 3) A1)))) Ad)
  (A2 (Av (A7 (D3 (K:=K) Z) (A9 (A4 (K:=K) hu) (pv 1) A3 (by ac_rfl)) (B0 (A0 Af (A0 Af A1))) ⋯) (A2 (Ai (i:=4) Dr.nd ⋯ (by eq_refl) (Kn (A7 (Aq (K:=K) Z) (A9 (A4 (K:=K) hu) (pv 1) A3 (by ac_rfl)) Af (Ac _)) (An Ga (hr.mono ∅) ⋯ (A0 (A6 (Ab (K:=K)) ⋯ T.b_len PyProof.Rows.Boot.«len» (A0 (A9 (A4 (K:=K) hu) (pv 0) A3 (by ac_rfl)) A1)) (A0 (A6 (Ab (K:=K)) ⋯ T.b_len PyProof.Rows.Boot.«len» (A0 (A9 (A4 (K:=K) hu) (A9 (A4 (K:=K) hu) (A9 (A4 (K:=K) hu) (pv 2) A3 (by ac_rfl)) A3 (by ac_rfl)) A3 (by ac_rfl)) A1)) A1))) A3))
  (A5 (Aa (B1 Cw (B1 Cw (A9 (A4 (K:=K) hu) (pv 3) A3 (by ac_rfl)) (A9 (A4 (K:=K) hu) (pv 3) A3 (by ac_rfl))) (pv 4))))) Ad)
  (A5 (Aa (Kn (A7 (Aq (K:=K) Z) (A9 (A4 (K:=K) hu) (pv 1) A3 (by ac_rfl)) Af (Ac _)) A3 (A9 (A4 (K:=K) hu) (pv 3) A3 (by ac_rfl)))))))),?_⟩
 symm;refine Hq (SqL.of a1) ?_;refine C4 (K:=K) (Bc (xs:=ys)) ms hyl.symm (λ_=>true) PyData.int (λ_=>rfl) (by omega) (λH' e=>SqL.of (e _ _ a1)) (λi m y H1 R R' hm hy Y hR1 _=>?_) (λl zs H1 hl Y h1 a0=>?_)
 . obtain⟨t,zs,rfl,O,hz⟩:=(hys i m y hm hy).same Y;symm;refine Au O (show atI zs ((2:Nat):Int)=_ from Ag hz) ?_;exact hR1 rfl _ _ (.refl _) (by simp only[Is])
 rw[A3B.mpr λ_ _=>rfl] at a0;have hzs:=Gd a0;subst hzs;symm;rcases hR.at (Is.mono Y _ _ hID) with ⟨ta,rfl,rfl,rfl,O⟩|⟨ta,ja,w,rfl,rfl,hw,O,hSj,_⟩
 . refine Au O (show atI [V.str "row"] ((0:Nat):Int)=_ from Ag rfl) ?_;symm;refine B3 (Ak (by simp)) λt2 H2 ht2 U h2=>?_;refine Hj (ns:=["ask","last","first"]) (.inr (SqT.of h2)) ?_;symm;rw[A0J ∅];symm;refine Au (U.seqT O) (show atI [V.str "row"] ((0:Nat):Int)=_ from Ag rfl) ?_;symm;refine B3 (Ak (by simp)) λt3 H3 ht3 e3 h3=>?_;refine Hj (ns:=["above","beside"]) (.inr (SqT.of h3)) ?_;symm;rw[A0J ∅];symm;refine a74 ?_;symm;have e13:=(Y.trans U).trans e3;refine Au ((U.trans e3).seqT O) (show atI [V.str "row"] ((0:Nat):Int)=_ from Ag rfl) ?_;symm;exact k H3 e13
 refine Au O (show atI [V.str w,V.ref ja] ((0:Nat):Int)=_ from Ag rfl) ?_;symm;refine B3 (Ak (by simp)) λt2 H2 ht2 U h2=>?_;refine Hj (ns:=["ask","last","first"]) (.inr (SqT.of h2)) ?_;symm;rw[A0K (by rcases hw with rfl|rfl<;>decide)]
 symm;refine ⟨l,ms,rfl,.inl (SqL.of (U _ _ h1)),hms,by omega,?_⟩;exact k H2 (Y.trans U)
theorem Si {k:Nat}:∀ {ds:List PyData},(∀ e∈ds,e.weight<=k)->PyData.weightAll ds<=ds.length*(k+1)
 | [],_=>by simp only[PyData.weightAll];omega
 |d :: ds,h=>by have h1:=h d (by simp);have h2:=Si (ds:=ds) λe F=>h e (by simp[F]);simp only[PyData.weightAll,List.length_cons,Nat.succ_mul];omega
def ar5 (h:O0 z=true):Asc z:=λc F=>by unfold O0 at h;rw[A0W,A0L] at h;have:=h.2 c F;unfold Kc at this;rw[A0W,A1M,A1M] at this;omega
def Tq {p W:Nat}{ns:List Str}(h:∀ z∈ns,O0 z=true)(hl:ns.length<=W):Els p (ns.length*9) W (ns.map PyData.str):=by
 refine⟨λe F=>?_,?_,by simpa using hl⟩
 . obtain⟨z,hz,rfl⟩:=A0A.mp F;exact⟨8,Sb (ar5 (h z hz)) (ac4 (h z hz))⟩
 have:=Si (k:=8) (ds:=ns.map PyData.str) λe F=>by obtain⟨z,hz,rfl⟩:=A0A.mp F;simp only[PyData.weight];exact ac4 (h z hz)
 simpa using this
def aq8 {p W:Nat}{q:Str×Str}(h1:O0 q.1=true)(h2:O0 q.2=true)(F:2<=W):Dk (p+1) 18 W (prD q):=by
 have:=Tq (p:=p) (W:=W) (ns:=[q.1,q.2]) (λz hz=>by
  simp only[List.mem_cons,List.not_mem_nil,or_false] at hz;rcases hz with rfl|rfl
  . exact h1
  exact h2) F
 exact F8 this
def Zm {p W:Nat}{ps:List (Str×Str)}(h:NmP ps)(hl:ps.length<=W)(U:2<=W):Els (p+1) (ps.length*19) W (ps.map prD):=by
 refine⟨λe O=>?_,?_,by simpa using hl⟩
 . obtain⟨q,F,rfl⟩:=A0A.mp O;exact⟨18,aq8 (h q F).1 (h q F).2 U⟩
 have:=Si (k:=18) (ds:=ps.map prD) λe O=>by obtain⟨q,F,rfl⟩:=A0A.mp O;exact(aq8 (p:=0) (h q F).1 (h q F).2 U).wt
 simpa using this
def ag7 {ns:List Str}{ps:List (Str×Str)}(h:NmP ps)(h1:∀ z∈ns,O0 z=true)(h2:ns.length<=20)(O:ps.length<=70):Dk 3 1600 70 (hfD ns ps):=by
 have a:=F8 (Tq (p:=1) (W:=70) h1 (by omega));have b:=F8 (Zm (p:=0) (W:=70) h (by omega) (by omega));refine F8 (p:=2) ⟨λe F=>?_,?_,by simp⟩
 . simp only[List.mem_cons,List.not_mem_nil,or_false] at F;rcases F with rfl|rfl
   . exact⟨_,a⟩
   exact⟨_,b⟩
 have:=a.wt;have:=b.wt;simp only[PyData.weightAll];simp only[nmD,psD] at *;omega
structure RwH (ρ:Dn):Prop where
 n0:0<=ρ.n
 n1:ρ.n<=1000000000000
 half:Half ρ.ns ρ.ps
 le:ρ.ns.length<=4
 pf:ρ.ps.length<=21
 ru:Ru ρ.R ρ.js
 few:ρ.js.length<=20
 jb:∀ j∈ρ.js,-1<=j/\j<=1000
def RwH.ok {ρ:Dn}(h:RwH ρ):a65 ρ:=by have hm:∀ p∈ρ.ps,p.1∈ρ.ns/\p.2∈ρ.ns:=λp F=>h.half.mem F;refine⟨h.n0,h.n1,⟨_,_,_,ag7 h.half.nmP h.half.names.2 (A0M h.le ∅) (A0M h.half.le ∅),by omega,by omega,by omega⟩,⟨ρ.ns,ρ.ps.map prD,rfl,⟨λz hz=>S3 (h.half.names.2 z hz),h.half.names.1,h.half.few⟩,by rw[A01];exact h.half.le,λe O=>?_⟩,h.half.w,h.ru⟩;obtain⟨p,F,rfl⟩:=A0A.mp O;exact⟨p.1,p.2,rfl,(hm p F).1,(hm p F).2⟩
def Z5 (js:List Int):SeqAt.shaped (.list (js.map PyData.int))=true:=by
 have a:=E7 PyData.int 0 js λz hz=>by simp only[PyData.depth];omega
 simp only[SeqAt.shaped,PyData.canLay0,PyData.depth,Pd js,Bool.true_and];exact A0D (by omega)
def V4 {js:List Int}:PyData.eqv (.list (js.map PyData.int)) (.list [])=js.isEmpty:=by cases js<;>simp[PyData.eqv,PyData.eqvAll]
def ai1 {js:List Int}(h:H a=some (.lst (js.map V.int)))(h':H b=some (.lst []))(k:Q (.bl (!js.isEmpty)) H):ao4 K (.ref a) (.ref b) H Q:=Vy (dx:=.list (js.map PyData.int)) (dy:=.list []) (Is.of_lst (SqL.of h) (Jz js)) (Is.of_lst (SqL.of h') .nil) (Z5 js) (by rfl) (by rw[V4];exact k)
def aE9 {js:List Int}(h:H a=some (.lst (js.map V.int)))(h':H b=some (.lst []))(k:Q (.bl js.isEmpty) H):ab1 K (.ref a) (.ref b) H Q:=Rl (dx:=.list (js.map PyData.int)) (dy:=.list []) (Is.of_lst (SqL.of h) (Jz js)) (Is.of_lst (SqL.of h') .nil) (Z5 js) (by rfl) (by rw[V4];exact k)
def Hi (K:W.Frag):Sp:=λvs H Q _=>∃ pv k ρs ρ,vs=[pv,.int ((k:Nat):Int)]/\Is K H (.tuple (ρs.map rwS)) pv/\(∀ ρ∈ρs,RwH ρ)/\ρs[k]? = some ρ/\ρs.length<=1000/\∀ H',Same H H'->Q (.str ((wdS ρs k ρ).getD "")) H'
theorem Qo (F:Fu K "_law_word" Je f fd)(T:Dy mg)(B4:Fnd P w K mg base 1 "_law_is_whole" ["_law_thing"] (C7 K))(Fe:Fnd P w K mg base 2 "_law_is_half" ["_law_thing"] (Ey K))(Fm:Fnd P w K mg base 3 "_law_is_rule" ["_law_names_here","_law_rule"] (F0 K))(Bs:Fnd P w K mg base 1 "_law_refs" ["_law_rule"] (Cy K))(El:Fnd P w K mg base 4 "_law_halves_so" ["_law_half_here","_law_rule","_law_halves"] (Dw K))(Aw:Fnd P w K mg base 2 "_law_number_of" ["_law_half_here","_law_rule","_law_rows"] (Bo K)):FnOk P w K mg base CX0 5 f fd ["_law_paper","_law_at"] (Hi K):=by
 refine F.ok F9 (λvs H Q E h=>?_) (λcdv A outer s H vs Q E Z h=>?_)
 . obtain⟨pv,kk,ρs,ρ,rfl,_⟩:=h;rfl
 obtain⟨pv,kk,ρs,ρ,rfl,hI,hok,aI,h1000,k⟩:=h;have hu:=Bh Z;have hq:=Bg Z;have U:=hok ρ (A05 aI);have hkl:=(A03.mp aI).1;have hfew:=U.few;obtain⟨pa,xs,rfl,hS,hX⟩:=hI.tup;have hxl:=IsL.length hX;rw[A01] at hxl;obtain⟨row,hrow,aQ⟩:=IsL.at hX (show(ρs.map rwS)[kk]? = some (rwS ρ) by rw[A06,aI];rfl);obtain⟨ta,zs,rfl,a8,hL⟩:=Is.tup aQ;obtain⟨y0,r0,rfl,aF,y1,r1,rfl,a5,y2,r2,rfl,aP,rfl⟩:=(show ∃ v r,zs=v :: r/\Is K H (hfD ρ.ns ρ.ps) v/\∃ v' r',r=v' :: r'/\Is K H ρ.R v'/\∃ aY aX,r'=aY :: aX/\Is K H (.int ρ.n) aY/\aX=[] by simpa only[L2.IsL] using hL);simp only[L2.Is] at aP;subst aP;have aB:∀ {H':Hp} {Q:VK},Same H H'->Q y0 H'->Qb K (.ref ta) (.int 0) H' Q:=λe k=>Au (e.seqT a8) (show atI [y0,y1,V.int ρ.n] ((0:Nat):Int)=_ from Ag rfl) k;have aC:∀ {H':Hp} {Q:VK},Same H H'->Q y1 H'->Qb K (.ref ta) (.int 1) H' Q:=λe k=>Au (e.seqT a8) (show atI [y0,y1,V.int ρ.n] ((1:Nat):Int)=_ from Ag rfl) k;have aK:∀ {H':Hp} {Q:VK},Same H H'->Q (.int ρ.n) H'->Qb K (.ref ta) (.int 2) H' Q:=λe k=>Au (e.seqT a8) (show atI [y0,y1,V.int ρ.n] ((2:Nat):Int)=_ from Ag rfl) k
 with_reducible refine⟨_,(A2 (Ai (i:=2) F9.nd ⋯ (by eq_refl) (A9 (A4 (K:=K) hu) (pv 0) (pv 1) (by ac_rfl)))
  (A2 (Av (PW.pt (E9 (Bj (B8 (A6 (Al (K:=K)) ⋯ T.b_isinstance PyProof.Rows.Boot.«isinstance» (A0 (pv 2) (A0 (B9 (v:=.ty "tuple") ⋯ T.b_tuple PyProof.Rows.Boot.«tuple» ⋯) A1))))) (E9 (A7 (C8 (K:=K) hq) (A6 (Ab (K:=K)) ⋯ T.b_len PyProof.Rows.Boot.«len» (A0 (pv 2) A1)) A3 (Ac _)) (E9 (Bj (B8 (An Fe (Z.mono ∅) ⋯ (A0 (A9 (A4 (K:=K) hu) (pv 2) A3 (by ac_rfl)) A1)))) (Dj (Bj (B8 (An Fm (Z.mono ∅) ⋯ (A0 (A9 (A4 (K:=K) hu) (A9 (A4 (K:=K) hu) (pv 2) A3 (by ac_rfl)) A3 (by ac_rfl)) (A0 (A9 (A4 (K:=K) hu) (pv 2) A3 (by ac_rfl)) A1)))))))))) (A5 (Aa Af)) Ad)
  (A2 (Av (PW.pt (E9 (Bj (B8 (An B4 (Z.mono ∅) ⋯ (A0 (A9 (A4 (K:=K) hu) (pv 2) A3 (by ac_rfl)) A1)))) (Dj (A7 Ws (A9 (A4 (K:=K) hu) (pv 2) A3 (by ac_rfl)) A3 (Ac _))))) (A5 (Aa Af)) Ad)
  (A2 (Ai (i:=3) F9.nd ⋯ (by eq_refl) (An Bs (Z.mono ∅) ⋯ (A0 (A9 (A4 (K:=K) hu) (pv 2) A3 (by ac_rfl)) A1)))
  (A2 (Av (A7 (C8 (K:=K) hq) (As ["_law_one"] ["_law_at"] [1] ⋯ ⋯ ⋯ (Ao (K:=K) hu (pv 3)) (λ_ _ _ _=>(Ae (i:=0) (by with_unfolding_all (show(["_law_one","_law_at"]:List Str).Nodup;decide +kernel)) ⋯ (by eq_refl))) (Ap ∅) (λ_ _ _ _=>(Bw (Bj (Pa Tj Ws A3 (pv 0) (pv 1))))) (λ_ _ _ _=>(pv 0))) (Bm A1) (Ac _)) (A5 (Aa Af)) Ad)
  (A2 (C0 (i:=4) ["_law_one"] ["_law_paper"] [0] ⋯ ⋯ ⋯ F9.nd ⋯ ⋯ (Ao (K:=K) hu (pv 3)) (λ_ _ _ _=>(Ae (i:=0) (by with_unfolding_all (show(["_law_one","_law_paper"]:List Str).Nodup;decide +kernel)) ⋯ (by eq_refl))) (Ap ∅) (λ_ _ _ _=>B2) (λ_ _ _ _=>(A9 (A4 (K:=K) hu) (pv 1) (pv 0) (by ac_rfl))))
  (A2 (Av (Bj (B8 (An El (Z.mono ∅) ⋯ (A0 (A9 (A4 (K:=K) hu) (pv 2) A3 (by ac_rfl)) (A0 (A9 (A4 (K:=K) hu) (pv 2) A3 (by ac_rfl)) (A0 (As ["_law_one"] [] [] ⋯ ⋯ ⋯ (Ao (K:=K) hu (pv 4)) (λ_ _ _ _=>(Ae (i:=0) (by with_unfolding_all (show(["_law_one"]:List Str).Nodup;decide +kernel)) ⋯ (by eq_refl))) (Ap ∅) (λ_ _ _ _=>B2) (λ_ _ _ _=>(A9 (A4 (K:=K) hu) (pv 0) A3 (by ac_rfl)))) A1)))))) (A5 (Aa Af)) Ad)
  (A5 (Aa (A9 (A4 (K:=K) hu) (Bm (A0 Af (A0 Af A1))) (Bd Mk ⋯ T.b_int PyProof.Rows.Boot.«int» (A0 (At (Aq (K:=K) hq) (A9 (A4 (K:=K) hu) (pv 2) A3 (by ac_rfl)) (An Aw (Z.mono ∅) ⋯ (A0 (A9 (A4 (K:=K) hu) (pv 2) A3 (by ac_rfl)) (A0 (A9 (A4 (K:=K) hu) (pv 2) A3 (by ac_rfl)) (A0 (pv 4) A1)))) (Ac _)) A1)) (by ac_rfl))))))))))),?_⟩
 symm;refine Au hS (Ag hrow) ?_;symm;refine Ep aQ ⟨_,rfl,?_⟩;rw[if_neg (by simp[Wb,rwS])];symm;refine M5 a8 ?_;symm;rw[if_neg (by simp)];symm;refine aB (.refl _) ?_;symm;refine⟨y0,ρ.ns,ρ.ps,rfl,aF,U.half,λH1 e1=>?_⟩;symm;refine aB e1 ?_;refine Hx (aF.hf_fz e1.fz) λnv hN=>?_;symm;refine aC e1 ?_;symm;refine⟨nv,y1,ρ.R,ρ.js,rfl,Is.mono e1 _ _ a5,U.ru,λH2 e2=>?_⟩;have a1:=e1.trans e2;symm;refine aK a1 ?_;symm;refine⟨ρ.n,rfl,?_⟩;symm;refine aK a1 ?_;symm;refine Gw (λh=>absurd h (by have:=U.n0;omega)) (λ_=>?_);symm;refine aC a1 ?_;symm;refine⟨y1,ρ.R,ρ.js,rfl,Is.mono a1 _ _ a5,U.ru,λja H3 e3 a7=>?_⟩;have e13:=a1.trans e3;symm;refine Ix a7 ?_;refine C4 (K:=K) (By (xs:=ρ.js.map V.int)) ρ.js (by rw[A01]) (λj=>!(decide (0<=j)&&decide (j<(kk:Int)))) PyData.int (λ_=>rfl) (by rw[A01];omega) (λH' e=>e.seqT a7) (λi j v1 H4 R R' O hv e4 hR hR'=>?_) (λl4 zs H4 hl4 e4 h4 hL4=>?_)
 . rw[A06,O] at hv
   cases hv;symm;refine Gw (λh0=>?_) (λh0=>?_)
   . symm;refine M0 (λh1=>?_) (λh1=>?_)
     . symm;exact hR (by simp[h1]) _ _ (.refl _) (by simp only[Is])
     exact hR' (by simp[h0,h1]) _ (.refl _)
   symm;exact hR (by simp[h0]) _ _ (.refl _) (by simp only[Is])
 have hzs:=Gd hL4;subst hzs;symm;refine Br ∅ λl5 H5 hl5 e5 h5=>?_;refine ai1 (e5 _ _ h4) h5 ?_;have aD:=(e13.trans e4).trans e5;have aN:=e4.trans e5;symm;refine Wu (λY=>?_) (λY=>?_)
 . symm;have:=k H5 aD
   rw[show wdS ρs kk ρ=some ("ref":Str) by unfold wdS;rw[List.isEmpty_eq_false_iff_exists_mem] at Y;obtain⟨j,O⟩:=Y;obtain⟨O,Y⟩:=A0V.mp O;rw[if_pos ⟨j,O,by simp at Y;omega⟩]] at this
   exact this
 have a9:∀ j∈ρ.js,0<=j/\j<(kk:Int):=λj O=>by have:=A4J.mp (List.isEmpty_iff.mp Y) j O;simp at this;omega
 have aS:¬ ∃ j∈ρ.js,j<0\/(kk:Int)<=j:=λ⟨j,O,h⟩=>by have:=a9 j O;omega
 symm;refine Ix (aN.seqT a7) ?_;refine Gh (β:=V) (By (xs:=ρ.js.map V.int)) ρ.js (by rw[A01]) (λj b=>xs[j.toNat]? = some b) (λ_ _ b y=>y=b) (λ_ _ _ _ _ _ _ h=>h) (by rw[A01];omega) (λH' e=>(aN.trans e).seqT a7) (λp i j v1 H6 R R' _ O hv e6 hR=>?_) (λl6 ys bs H6 hl6 e6 h6 aW hbl hP=>?_)
 . rw[A06,O] at hv
   cases hv;obtain⟨j0,j1⟩:=a9 j (A05 O);have aV:=A00 (show j.toNat<xs.length by omega);symm;refine Au ((aD.trans e6).seqT hS) (Ks j0 aV) ?_;exact hR _ _ _ (.refl _) aV rfl
 have a4:=aD.trans e6
 have aT:∀ {i:Nat} {j:Int} {y:V} {H':Hp},Same H H'->ρ.js[i]? = some j->ys[i]? = some y->Is K H' (rwS (atS ρs j)) y:=fun {i j y H'} e O hy=>by
  obtain⟨b,Y⟩:∃ b,bs[i]? = some b:=⟨_,A00 (by rw[hbl];exact(A03.mp O).1)⟩;obtain⟨hx,rfl⟩:=hP i j b y O Y hy;obtain⟨j0,j1⟩:=a9 j (A05 O);have a3:=A00 (show j.toNat<ρs.length by omega);obtain⟨x,aU,hI'⟩:=IsL.at (IsL.mono e _ _ hX) (show(ρs.map rwS)[j.toNat]? = some (rwS (atS ρs j)) by rw[List.getElem?_map,a3];unfold atS;rw[a3];rfl);rw[hx] at aU
  cases aU;exact hI'
 have aA:∀ j∈ρ.js,RwH (atS ρs j):=λj O=>by obtain⟨j0,j1⟩:=a9 j O;have a3:=A00 (show j.toNat<ρs.length by omega);unfold atS;rw[a3];exact hok _ (A05 a3)
 symm;refine aB a4 ?_;symm;refine aC a4 ?_;symm;refine Hq (SqL.of h6) ?_;refine C4 (K:=K) (Bc (xs:=ys)) ρ.js aW.symm (λ_=>true) (λj=>hfD (atS ρs j).ns (atS ρs j).ps) (λ_=>Mz _ _) (by omega) (λH' e=>SqL.of (e _ _ h6)) (λi j v1 H7 R R' O hv e7 hR _=>?_) (λl7 us H7 hl7 e7 h7 aR=>?_)
 . obtain⟨ja',jz,rfl,aH,aG⟩:=Is.tup (aT (a4.trans e7) O hv);obtain⟨yj,aJ,a6⟩:=IsL.at aG (show [hfD (atS ρs j).ns (atS ρs j).ps,(atS ρs j).R,PyData.int (atS ρs j).n][0]? = some (hfD (atS ρs j).ns (atS ρs j).ps) from rfl);symm;refine Au aH (show atI jz ((0:Nat):Int)=_ from Ag aJ) ?_;exact hR rfl _ _ (.refl _) a6
 rw[A3B.mpr λ_ _=>rfl] at aR;have aE:=a4.trans e7;symm;refine⟨y0,y1,l7,us,ρ.ns,ρ.ps,ρ.R,ρ.js,ρ.js.map λj=>((atS ρs j).ns,(atS ρs j).ps),rfl,aF.hf_fz aE.fz,U.half,A0M U.le ∅,Is.mono aE _ _ a5,U.ru,h7,by rw[A1H];exact aR,λh hh=>?_,by rw[A01];omega,λb H8 e8 a2=>?_⟩
 . obtain⟨j,O,rfl⟩:=A0A.mp hh;exact⟨(aA j O).half,A0M (aA j O).le ∅⟩
 have aM:=aE.trans e8;rw[A1H] at a2;have a2:b=true↔al7 ρ.R ρ.ns ρ.ps (hsS ρs ρ.js):=a2
 cases b with
 |false=>symm;have:=k H8 aM;rw[show wdS ρs kk ρ=some ("half":Str) by unfold wdS;rw[if_neg aS,if_pos λh=>by have:=a2.mpr h;cases this]] at this;exact this
 |true=>
   have hfit:=a2.mp rfl;symm;refine Br (Ak (by simp)) λl9 H9 hl9 e9 h9=>?_;have a0:=aM.trans e9;symm;refine aK a0 ?_;symm;refine aB a0 ?_;symm;refine aC a0 ?_;symm;refine⟨y0,y1,l6,ρ.R,ρ.js,nsS ρs ρ.js,ys,rfl,Is.mono a0 _ _ a5,U.ru,((e7.trans e8).trans e9) _ _ h6,by unfold nsS;rw[List.length_map];exact aW,λi m y hm hy=>?_,λm hm=>?_,by unfold nsS;rw[List.length_map];omega,λH10 aL=>?_⟩
   . unfold nsS at hm;rw[A06] at hm;obtain⟨j,O,rfl⟩:=A0Z.mp hm;obtain⟨ja',jz,rfl,aH,aG⟩:=Is.tup (aT a0 O hy);obtain⟨yj,aJ,a6⟩:=IsL.at aG (show [hfD (atS ρs j).ns (atS ρs j).ps,(atS ρs j).R,PyData.int (atS ρs j).n][2]? = some (.int (atS ρs j).n) from rfl);simp only[L2.Is] at a6;subst a6;exact⟨_,_,rfl,aH,aJ⟩
   . unfold nsS at hm;obtain⟨j,O,rfl⟩:=A0A.mp hm;exact⟨(aA j O).n0,(aA j O).n1⟩
   have:=k H10 (a0.trans aL);unfold wdS at this;rw[A0J aS,A0J (λh=>h hfit)] at this;have aO:=aL _ _ h9;symm
   by_cases hn:ρ.n=(if Gx ρ.R=true then 1 else(nsS ρs ρ.js).sum)
   . rw[A0J (λh=>h hn)] at this;rw[A0D (congrArg V.int hn)];refine Fv aO (by rfl) ?_;exact this
   rw[A0K hn] at this;rw[A0H λh=>hn (V.int.inj h)];refine Fv aO (by rfl) ?_;exact this
def ar8 {ρs:List Dn}{k:Nat}{ρ:Dn}{w:Str}(h:wdS ρs k ρ=some w):w ≠ "":=by
 unfold wdS at h
 by_cases h1:∃ j∈ρ.js,j<0\/(k:Int)<=j
 . rw[A0K h1] at h
   cases h;decide
 rw[A0J h1] at h
 by_cases h2:al7 ρ.R ρ.ns ρ.ps (hsS ρs ρ.js)
 . rw[A0J (λz=>z h2)] at h
   by_cases F:ρ.n=(if Gx ρ.R=true then 1 else(nsS ρs ρ.js).sum)
   . rw[A0J (λz=>z F)] at h
     cases h
   rw[A0K F] at h
   cases h;decide
 rw[A0K h2] at h
 cases h;decide
def Gj (K:W.Frag):Sp:=λvs H Q _=>∃ v ρs o,vs=[v]/\Is K H (.tuple (ρs.map rwS)) v/\(∀ ρ∈ρs,RwH ρ)/\ρs.length<=1000/\FlS ρs o/\∀ u H',Same H H'->Is K H' (flD o) u->Q u H'
theorem Pl (F:Fu K "_law_fault" Hu f fd)(T:Dy mg)(Jv:Fnd P w K mg base 5 "_law_word" ["_law_paper","_law_at"] (Hi K)):FnOk P w K mg base CX0 6 f fd ["_law_paper"] (Gj K):=by
 refine F.ok Go (λvs H Q E h=>?_) (λcdv A outer s H vs Q E Z h=>?_)
 . obtain⟨v,ρs,o,rfl,_⟩:=h;rfl
 obtain⟨v,ρs,o,rfl,hI,hok,hlen,hF,k⟩:=h;have hu:=Bh Z;have hq:=Bg Z;obtain⟨va,xs,rfl,hS,hX⟩:=hI.tup;have hxl:=IsL.length hX;rw[A01] at hxl
 with_reducible refine⟨_,(A2 (E4 A18 ⋯ (Cu ⋯ T.b_range (A0 (A6 (Ab (K:=K)) ⋯ T.b_len PyProof.Rows.Boot.«len» (A0 (pv 0) A1)) A1)) (Ae (i:=1) Go.nd ⋯ (by eq_refl))
  (A2 (Ai (i:=2) Go.nd ⋯ (by eq_refl) (An Jv (Z.mono ∅) ⋯ (A0 (pv 0) (A0 (pv 1) A1))))
  (A5 (Av (A7 (C8 (K:=K) hq) (pv 2) Af (Ac _)) (A5 (Aa (B0 (A0 (pv 2) (A0 (pv 1) A1))))) Ad))))
  (A5 (Aa Fd))),?_⟩
 symm;refine M5 hS ?_;refine Iy (by omega) ?_;refine Kp Cb (λi σ H2=>∃ x1 x2,σ=[some (.ref va),x1,x2]/\Same H H2/\∀ w j,o=some (w,j)->i<=j) ⟨_,_,rfl,.refl _,λ_ _ _=>A1W _⟩ (λ_ _ _ _=>trivial) (λi x σ H2 hx hi Y=>?_) (fun σ H2 Y=>?_)
 . obtain⟨x1,x2,rfl,O,U⟩:=Y;obtain⟨rfl,hi2⟩:=Fs hx;have hil:i<ρs.length:=by omega
   have hρ:=A00 hil;symm;refine⟨_,i,ρs,_,by rw[Int.zero_add];rfl,Is.mono O _ _ hI,hok,hρ,hlen,λH3 e3=>?_⟩;symm;rcases hF.at hρ U with ⟨hno,hj'⟩|⟨w,ho,a0⟩
   . rw[hno];refine M0 (λh=>absurd rfl h) (λ_=>?_);symm;exact⟨_,_,rfl,O.trans e3,hj'⟩
   rw[a0];refine M0 (λ_=>?_) (λh=>absurd (V.str.inj h) (ar8 a0));symm;refine B3 (Ak (by simp)) λt H4 ht4 e4 h4=>?_;symm;refine k _ H4 ((O.trans e3).trans e4) ?_;rw[ho];exact Is.of_tup (SqT.of h4) (.cons (by simp only[Is];rfl) (.one (by simp only[Is,Int.zero_add])))
 obtain⟨x1,x2,rfl,O,U⟩:=Y;rw[A01,A1S] at U;symm;refine k _ H2 O ?_
 cases o with
 |none=>simp only[flD,Is]
 |some q=>obtain⟨w,j⟩:=q;obtain⟨⟨D,h,_⟩,_⟩:=hF;have:=U w j rfl;have:=(A03.mp h).1;omega
structure RwG (ρ:Dn):Prop where
 h:RwH ρ
 n7:ρ.n<=7 ^ ρ.ns.length
def RwA (K:W.Frag)(S:List Addr)(H:Hp)(ρ:Dn)(y:V):Prop:=∃ t u r F a b ks qs,y = .ref t/\SqT K H t [u,r,.int ρ.n,.ref F]/\Is K H (hfD ρ.ns ρ.ps) u/\Is K H ρ.R r/\KyA K H F a b ks qs/\KyO ρ.ns ρ.ps ks qs/\a∉S/\b∉S
structure Lk (S:List Addr)(H H':Hp):Prop where
 fz:Fz H H'
 ls:∀ a xs,a∉S->H a=some (.lst xs)->H' a=some (.lst xs)
def Lk.same (e:Same H H'):Lk S H H':=⟨e.fz,λa xs _ h=>e _ _ h⟩
def Lk.but (e:ExtBut p H H')(O:H p=some (.lst xs))(F:p∈S):Lk S H H':=⟨e.fzL O,λa xs ha h=>e _ _ (λz=>ha (z ▸ F)) h⟩
def Lk.draw (e:ExtBut d H H')(F:Feed H d l):Lk S H H':=⟨F.fz e,λa xs ha h=>e _ _ (F.lst h) h⟩
def RwsA (K:W.Frag)(S:List Addr)(H:Hp)(p:Addr)(ρs:List Dn):Prop:=∃ ys,H p=some (.lst ys)/\ys.length=ρs.length/\∀(i:Nat) ρ y,ρs[i]? = some ρ->ys[i]? = some y->RwG ρ/\RwA K S H ρ y
def RwA.lk {ρ:Dn}(h:RwA K S H ρ y)(g:Ru ρ.R ρ.js)(e:Lk S H H'):RwA K S H' ρ y:=by obtain⟨t,u,r,kt,a,b,ks,qs,rfl,h1,h2,O,⟨U,Y,zs,Z,h7⟩,h8,ha,F⟩:=h;exact⟨t,u,r,kt,a,b,ks,qs,rfl,e.fz.seq h1,h2.hf_fz e.fz,Is.fz e.fz _ _ g.frz O,⟨e.fz.seq U,e.ls _ _ ha Y,zs,e.ls _ _ F Z,IsL.fz e.fz _ _ (E2 _) h7⟩,h8,ha,F⟩
theorem RwsA.lk {ρs:List Dn}(h:RwsA K S H p ρs)(e:Lk S H H')(O:∀ xs,H p=some (.lst xs)->H' p=some (.lst xs)):RwsA K S H' p ρs:=by obtain⟨ys,h1,h2,F⟩:=h;exact⟨ys,O _ h1,h2,λi ρ y a b=>let ⟨g1,g2⟩:=F i ρ y a b;⟨g1,g2.lk g1.h.ru e⟩⟩
theorem RwsA.same {ρs:List Dn}(h:RwsA K S H p ρs)(e:Same H H'):RwsA K S H' p ρs:=h.lk (.same e) λxs g=>e _ _ g
def RwsA.more {ρs:List Dn}(h:RwsA K S H p ρs)(F:H q=none):RwsA K (q :: S) H p ρs:=by obtain⟨ys,h1,h2,Z⟩:=h;refine⟨ys,h1,h2,λi ρ y hρ hy=>?_⟩;obtain⟨Y,t,u,r,kt,a,b,ks,qs,rfl,k1,k2,k3,⟨k4,O,zs,U,k7⟩,k8,ha,hb⟩   := Z i ρ y hρ hy;exact⟨Y,t,u,r,kt,a,b,ks,qs,rfl,k1,k2,k3,⟨k4,O,zs,U,k7⟩,k8,λz=>(A0G.mp z).elim (ne_of_none O F) ha,λz=>(A0G.mp z).elim (ne_of_none U F) hb⟩
def RwsA.less {ρs:List Dn}(h:RwsA K (q :: S) H p ρs):RwsA K S H p ρs:=by obtain⟨ys,h1,h2,O⟩:=h;refine⟨ys,h1,h2,λi ρ y Z Y=>?_⟩;obtain⟨F,t,u,r,kt,a,b,ks,qs,rfl,k1,k2,k3,k4,k8,ha,U⟩   := O i ρ y Z Y;exact⟨F,t,u,r,kt,a,b,ks,qs,rfl,k1,k2,k3,k4,k8,λz=>ha (A0I _ z),λz=>U (A0I _ z)⟩
theorem RwsA.snoc {ys:List V}{ρs:List Dn}{ρ:Dn}(h:RwsA K S H p ρs)(U:H p=some (.lst ys))(e:ExtBut p H H')(hS:p∈S)(h':H' p=some (.lst (ys++[y])))(g:RwG ρ)(r:RwA K S H ρ y):RwsA K S H' p (ρs++[ρ]):=by
 obtain⟨a0,h1,h2,Z⟩:=h;rw[U] at h1
 cases h1;have lk:Lk S H H':=Lk.but e U hS;refine⟨_,h',by rw[A08,A08,h2];rfl,λi ρ' y' a b=>?_⟩;rcases A3C i ρs.length with hi|hi
 . rw[A1B hi] at a;rw[A1B (by omega)] at b;obtain⟨F,Y⟩:=Z i ρ' y' a b;exact⟨F,Y.lk F.h.ru lk⟩
 have O:i-ρs.length=0:=by have:=(A03.mp a).1;rw[A08,A1C] at this;omega
 rw[A17 hi,O] at a;rw[A17 (by omega),h2,O] at b
 cases a
 cases b;exact⟨g,r.lk g.h.ru lk⟩
def tN:Nat->Nat
 |0=>1
 |n+1=>1+(n+1)*tN n
def ax1 {n:Nat}(h:n<=3):tN n<=16:=by rcases(by omega:n=0\/n=1\/n=2\/n=3) with rfl|rfl|rfl|rfl<;>decide
def P4 {p W b:Nat}{m:Int}(h:m.natAbs<2 ^ b)(U:b<=40):Dk p (b+3) W (.int m):=by
 have O:m.natAbs<2 ^ 40:=A0Y h (Nat.pow_le_pow_right ∅ U);have g:=ax5 (p:=p) (W:=W) (m:=m) (A3Q O ∅);refine⟨g.asc,g.lay,g.sh,g.lv,g.dp,?_,g.wd⟩
 have hl:m.natAbs.log2<b+1:=by
  by_cases F:m.natAbs=0
  . rw[F,show Nat.log2 0=0 by decide];omega
  exact(Nat.log2_lt F).mpr (A3Q h (Nat.pow_lt_pow_right ∅ (by omega)))
 simp only[PyData.weight]
 split<;>omega
def Sv {p w W:Nat}(h:Dk p w W D)(U:p<=60)(hw:w<=350000):D.showable=true/\D.shown.length<=sizeLine/\D.depth<=100:=by have h2:=PyData.shown_le 45 ∅ D h.lv;have F:=h.wt;have O:=h.dp;refine⟨h.sh,?_,by omega⟩;rw[A0T];omega
def a67 {p W:Nat}{js:List Int}(h:∀ j∈js,-1<=j/\j<=1000)(hl:js.length<=W):Els p (js.length*15) W (js.map PyData.int):=by
 have h1:∀ j∈js,Dk p 14 W (.int j):=λj F=>P4 (b:=11) (by have:=h j F;omega) ∅;refine⟨λe O=>?_,?_,by simpa using hl⟩
 . obtain⟨j,F,rfl⟩:=A0A.mp O;exact⟨14,h1 j F⟩
 have:=Si (k:=14) (ds:=js.map PyData.int) λe O=>by obtain⟨j,F,rfl⟩:=A0A.mp O;exact(h1 j F).wt
 simpa using this
def N5:Asc ("row":Str)/\Asc ("last":Str)/\Asc ("first":Str)/\Asc ("ref":Str)/\Asc ("half":Str)/\Asc ("number":Str)/\Asc ("shape":Str):=by unfold Asc;decide +kernel
def Y1 {ns:List Str}{ps:List (Str×Str)}(F:Half ns ps)(Y:ns.length<=4)(U:ps.length<=21):Dk 3 439 400 (hfD ns ps):=by
 have a:=F8 (Tq (p:=1) (W:=400) F.names.2 (by omega));have b:=F8 (Zm (p:=0) (W:=400) F.nmP (by omega) (by omega));refine F8 (p:=2) ⟨λe O=>?_,?_,by simp⟩
 . simp only[List.mem_cons,List.not_mem_nil,or_false] at O;rcases O with rfl|rfl
   . exact⟨_,a⟩
   exact⟨_,b⟩
 have:=a.wt;have:=b.wt;simp only[PyData.weightAll];simp only[nmD,psD] at *;omega
theorem aD1  {js:List Int} (h:Ru D js) (hl:js.length<=20) (Z:∀ j∈js,-1<=j/\j<=1000):Dk 2 307 400 D:=by
 obtain⟨O,U,Y,_⟩:=N5
 cases h with
 |row=>exact(F8 (p:=1) (Els.one (Sb (w:=3) (W:=400) O ∅) ∅)).le ∅ ∅ ∅
 |ends w hw js _=>
   have b:=F8 (a67 (p:=0) (W:=400) Z (by omega))
   have a:Dk 1 5 400 (.str w):=by
    rcases hw with rfl|rfl
    . exact Sb U ∅
    exact Sb Y ∅
   refine F8 (p:=1) ⟨λe F=>?_,?_,by simp⟩
   . simp only[List.mem_cons,List.not_mem_nil,or_false] at F;rcases F with rfl|rfl
     . exact⟨_,a⟩
     exact⟨_,b⟩
   have:=a.wt;have:=b.wt;simp only[PyData.weightAll];omega
def aw5 {ρ:Dn}(h:RwH ρ):Dk 4 792 400 (rwS ρ):=by
 have a:=Y1 h.half h.le h.pf;have b:=(aD1 h.ru h.few h.jb).le (p':=3) ∅ (A0B _) (A0B _);have c:=P4 (p:=3) (W:=400) (b:=40) (m:=ρ.n) (by have:=h.n0;have:=h.n1;omega) ∅;refine F8 (p:=3) ⟨λe F=>?_,?_,by simp⟩
 . simp only[List.mem_cons,List.not_mem_nil,or_false] at F;rcases F with rfl|rfl|rfl
   . exact⟨_,a⟩
   . exact⟨_,b⟩
   exact⟨_,c⟩
 have:=a.wt;have:=b.wt;have:=c.wt;simp only[PyData.weightAll];omega
def aa5 {ρs:List Dn}(h:∀ ρ∈ρs,RwH ρ)(hl:ρs.length<=400):Dk 5 317200 400 (.tuple (ρs.map rwS)):=by
 refine F8 (p:=4) ⟨λe F=>?_,?_,by rw[A01];exact hl⟩
 . obtain⟨ρ,O,rfl⟩:=A0A.mp F;exact⟨_,aw5 (h ρ O)⟩
 have:=Si (k:=792) (ds:=ρs.map rwS) λe F=>by obtain⟨ρ,O,rfl⟩:=A0A.mp F;exact(aw5 (h ρ O)).wt
 rw[A01] at this;omega
def ae3 {ns:List Str}{ps:List (Str×Str)}{ρs:List Dn}(Y:Half ns ps)(U:ns.length<=4)(O:ps.length<=21)(h:∀ ρ∈ρs,RwH ρ)(hl:ρs.length<=400):Dk 6 318000 400 (.tuple [hfD ns ps,.tuple (ρs.map rwS)]):=by
 have a:=(Y1 Y U O).le (p':=5) ∅ (A0B _) (A0B _);have b:=aa5 h hl;refine F8 (p:=5) ⟨λe F=>?_,?_,by simp⟩
 . simp only[List.mem_cons,List.not_mem_nil,or_false] at F;rcases F with rfl|rfl
   . exact⟨_,a⟩
   exact⟨_,b⟩
 have:=a.wt;have:=b.wt;simp only[PyData.weightAll];omega
theorem at0 (ρs:List Dn):∃ o,FlS ρs o:=by
 have O:∀ n,(∀ i ρ,i<n->ρs[i]? = some ρ->wdS ρs i ρ=none)\/∃ o,FlS ρs o:=by
  intro n
  induction n with
  |zero => exact .inl λi ρ hi=>absurd hi (Nat.not_lt_zero _)
  |succ n ih=>
    rcases ih with h|h
    . cases hρ:ρs[n]? with
      |none=>
        refine .inl λi ρ hi F=>?_;rcases(by omega:i<n\/i=n) with g|g
        . exact h i ρ g F
        rw[g,hρ] at F
        cases F
      |some ρ=>
        cases hw:wdS ρs n ρ with
        |some w=>exact .inr ⟨some (w,n),⟨ρ,hρ,hw⟩,λi ρ hi=>h i ρ hi⟩
        |none=>
          refine .inl λi ρ' hi F=>?_;rcases(by omega:i<n\/i=n) with g|g
          . exact h i ρ' g F
          rw[g,hρ] at F
          cases F;rw[g];exact hw
    exact .inr h
 rcases O ρs.length with h|h
 . exact⟨none,λi ρ hi=>h i ρ (A03.mp hi).1 hi⟩
 exact h
def a32 {ρs:List Dn}{k:Nat}{ρ:Dn}{w:Str}(h:wdS ρs k ρ=some w):w = "ref" \/ w = "half" \/ w = "number":=by
 unfold wdS at h
 by_cases h1:∃ j∈ρ.js,j<0\/(k:Int)<=j
 . rw[A0K h1] at h
   cases h;exact .inl rfl
 rw[A0J h1] at h
 by_cases h2:al7 ρ.R ρ.ns ρ.ps (hsS ρs ρ.js)
 . rw[A0J (λz=>z h2)] at h
   by_cases F:ρ.n=(if Gx ρ.R=true then 1 else(nsS ρs ρ.js).sum)
   . rw[A0J (λz=>z F)] at h
     cases h
   rw[A0K F] at h
   cases h;exact .inr (.inr rfl)
 rw[A0K h2] at h
 cases h;exact .inr (.inl rfl)
def R0 {w:Str}{j:Int}(h:Asc w)(hl:w.length<=8)(O:j.natAbs<2 ^ 40):Dk 2 60 400 (.tuple [.str w,.int j]):=by
 have a:=Sb (p:=1) (w:=8) (W:=400) h hl;have b:=P4 (p:=1) (W:=400) (b:=40) O ∅;refine F8 (p:=1) ⟨λe F=>?_,?_,by simp⟩
 . simp only[List.mem_cons,List.not_mem_nil,or_false] at F;rcases F with rfl|rfl
   . exact⟨_,a⟩
   exact⟨_,b⟩
 have:=a.wt;have:=b.wt;simp only[PyData.weightAll];omega
def ap1 {ρs:List Dn} {o:Option (Str×Nat)} (h:FlS ρs o) (hl:ρs.length<=400):Dk 2 60 400 (flD o):=by
 obtain⟨_,_,_,O,U,Y,_⟩:=N5
 cases o with
 |none=>exact⟨by rfl,by rfl,by rfl,by rfl,by decide,by decide,by decide⟩
 |some q=>
   obtain⟨w,j⟩:=q;obtain⟨⟨ρ,Z,hw⟩,_⟩:=h;have F:=(A03.mp Z).1;have F:(j:Int).natAbs<2 ^ 40:=by omega
   rcases a32 hw with rfl|rfl|rfl
   . exact R0 O ∅ F
   . exact R0 U ∅ F
   exact R0 Y ∅ F
def aD5 {ρs:List Dn}{o:Option (Str×Nat)}{al:Bool}{n:Int}(h:FlS ρs o)(hl:ρs.length<=400)(hn:n.natAbs<2 ^ 40):Dk 2 60 400 (tlD n (tlW ρs.length o al)):=by
 obtain⟨_,F,_,_,_,_,O⟩:=N5;unfold tlW
 split
 . exact R0 O ∅ ∅
 cases o with
 |some q=>obtain⟨w,j⟩:=q;exact ap1 h hl
 |none=>
   cases al with
   |true=>exact(P4 (p:=2) (W:=400) (b:=40) hn ∅).le ∅ ∅ ∅
   |false=>exact R0 F ∅ (by omega)
def Dt (K:W.Frag):Sp:=λvs H Q _=>∃(v pv:V) (ns:List Str) (ps:List (Str×Str)) (ρs:List Dn),vs=[v,pv]/\Is K H (hfD ns ps) v/\Half ns ps/\ns.length<=4/\ps.length<=21/\Is K H (.tuple (ρs.map rwS)) pv/\(∀ ρ∈ρs,RwH ρ)/\1<=ρs.length/\ρs.length<=400/\∀ H',Same H H'->Q (.bl true) H'
theorem L7 (F:Fu K "_law_judged_so" Ek f fd)(T:Dy mg)(D6:Fnd P w K mg base 7 "rows_fault" ["rows"] (Er K))(Ar:Fnd P w K mg base 2 "_law_key" ["_law_half_here"] (Cj K))(Hn:Fnd P w K mg base 6 "_law_fault" ["_law_paper"] (Gj K))(Jl:Fnd P w K mg base 9 "_law_told" ["_law_half_here","_law_paper"] (Hc K)):FnOk P w K mg base CX0 10 f fd ["_law_half_here","_law_paper"] (Dt K):=by
 refine F.ok Bn (λvs H Q E h=>?_) (λcdv A outer s H vs Q E Z h=>?_)
 . obtain⟨v,pv,ns,ps,ρs,rfl,_⟩:=h;rfl
 obtain⟨v,pv,ns,ps,ρs,rfl,hI,hH,h4,h21,Y,hok,hr1,a3,k⟩:=h;have hu:=Bh Z;have O:=Bg Z;have hn:=hH.names.1;obtain⟨o,a2⟩:=at0 ρs;obtain⟨ρl,hρl⟩:∃ ρ,ρs[ρs.length-1]? = some ρ:=⟨_,A00 (by omega)⟩;have a0:=hok ρl (A05 hρl);obtain⟨al,hal⟩:∃ al:Bool,al=true↔AlS ρl ns ps:=⟨@decide _ (Classical.propDecidable _),@decide_eq_true_iff _ (Classical.propDecidable _)⟩;have hnl:ρl.n.natAbs<2 ^ 40:=by have:=a0.n0;have:=a0.n1;omega
 obtain⟨r1,r2,r3⟩:=Sv (ae3 hH h4 h21 hok a3) ∅ ∅;obtain⟨f1,f2,f3⟩:=Sv (ap1 a2 a3) ∅ ∅;obtain⟨t1,t2,t3⟩:=Sv (aD5 (al:=al) a2 a3 hnl) ∅ ∅;obtain⟨pa,xs,rfl,hS,hX⟩:=Y.tup;have aH:=IsL.length hX;rw[A01] at aH;have hw:=hH.w;have aG:∀ ρ∈ρs,a65 ρ:=fun ρ hρ=>(hok ρ hρ).ok
 with_reducible refine⟨_,(A2 (Ai (i:=2) Bn.nd ⋯ (by eq_refl) (A6 (Dp (K:=K) O) ⋯ T.b_repr PyProof.Rows.Boot.«repr» (A0 (B0 (A0 (pv 0) (A0 (pv 1) A1))) A1)))
  (A2 (Ai (i:=3) Bn.nd ⋯ (by eq_refl) (An Hn (Z.mono ∅) ⋯ (A0 (pv 1) A1)))
  (A2 (Ai (i:=4) Bn.nd ⋯ (by eq_refl) (Kn (A7 (Aq (K:=K) O) (pv 1) (B0 A1) (Ac _)) (B0 (A0 Af (A0 (Wm Ol A3) A1))) (pv 3)))
  (A2 (Av (A7 Zc (pv 4) Fd (Ac _)) (A2 (Ai (i:=5) Bn.nd ⋯ (by eq_refl) (A9 (A4 (K:=K) hu) (pv 1) (B1 Np (A6 (Ab (K:=K)) ⋯ T.b_len PyProof.Rows.Boot.«len» (A0 (pv 1) A1)) A3) (by ac_rfl)))
  (A5 (Ai (i:=4) Bn.nd ⋯ (by eq_refl) (Kn (A7 (Aq (K:=K) O) (An Ar (Z.mono ∅) ⋯ (A0 (A9 (A4 (K:=K) hu) (pv 5) A3 (by ac_rfl)) A1)) (An Ar (Z.mono ∅) ⋯ (A0 (pv 0) A1)) (Ac _)) (A9 (A4 (K:=K) hu) (pv 5) A3 (by ac_rfl)) (B0 (A0 Af (A0 (B1 Np (A6 (Ab (K:=K)) ⋯ T.b_len PyProof.Rows.Boot.«len» (A0 (pv 1) A1)) A3) A1))))))) Ad)
  (A2 (Av (PW.pt (E9 (A7 (C8 (K:=K) O) (A6 (Dp (K:=K) O) ⋯ T.b_repr PyProof.Rows.Boot.«repr» (A0 (An Jl (Z.mono ∅) ⋯ (A0 (pv 0) (A0 (pv 1) A1))) A1)) (A6 (Dp (K:=K) O) ⋯ T.b_repr PyProof.Rows.Boot.«repr» (A0 (pv 4) A1)) (Ac _)) (Dj (A7 (C8 (K:=K) O) (A6 (Dp (K:=K) O) ⋯ T.b_repr PyProof.Rows.Boot.«repr» (A0 (An D6 (Z.mono ∅) ⋯ (A0 (pv 1) A1)) A1)) (A6 (Dp (K:=K) O) ⋯ T.b_repr PyProof.Rows.Boot.«repr» (A0 (pv 3) A1)) (Ac _))))) (A5 (Aa E6)) Ad)
  (A5 (Aa (At (Aq (K:=K) O) (A6 (Dp (K:=K) O) ⋯ T.b_repr PyProof.Rows.Boot.«repr» (A0 (B0 (A0 (pv 0) (A0 (pv 1) A1))) A1)) (pv 2) (Ac _))))))))),?_⟩
 symm;refine B3 (Ak (by simp)) λt1' H1 ht1 e1 h1=>?_;symm;refine Lf (Is.of_tup (SqT.of h1) (.cons (Is.mono e1 _ _ hI) (.one (Is.mono e1 _ _ Y)))) r1 r2 r3 ?_;symm;refine⟨_,ρs,o,rfl,Is.mono e1 _ _ Y,hok,by omega,a2,λu H2 e2 hu2=>?_⟩;have e12:=e1.trans e2;symm;refine a74 ?_;symm;refine B3 ∅ λt3' H3 ht3 e3 h3=>?_;have a1:=e12.trans e3;refine Rl (dx:=.tuple (ρs.map rwS)) (dy:=.tuple []) (Is.mono a1 _ _ Y) (Is.of_tup (SqT.of h3) .nil) ((aa5 hok a3).shaped ∅) (by rfl) ?_
 rw[show PyData.eqv (.tuple (ρs.map rwS)) (.tuple [])=false by
  cases ρs with
  |nil=>simp at hr1
  |cons ρ ρs=>simp[PyData.eqv,PyData.eqvAll]]
 walk_at "rq";have a6:=Is.mono e3 _ _ hu2
 with_reducible refine N1 (fun σ' H'=>∃ a7 x5,σ'=[some v,some (.ref pa),some (.str (PyData.tuple [hfD ns ps,.tuple (ρs.map rwS)]).shown),some u,some a7,x5]/\Same H3 H'/\Is K H' (tlD ρl.n (tlW ρs.length o al)) a7) (λN hN=>?_) (fun σ1 H5 hM=>?_)
 . cases o with
   |some q=>obtain⟨w,j⟩:=q;obtain⟨ua,ux,rfl,_,_⟩:=Is.tup a6;symm;rw[if_neg (by simp)];symm;exact hN _ _ ⟨_,_,rfl,.refl _,by rw[Uj (by omega)];exact a6⟩
   |none=>
     have hun:u = .non:=by simpa only[flD,L2.Is] using a6
     subst hun;have aA:=a1.seqT hS;obtain⟨y,hy,hIy⟩:=IsL.at (IsL.mono a1 _ _ hX) (show(ρs.map rwS)[ρs.length-1]? = some (rwS ρl) by rw[A06,hρl];rfl);obtain⟨ya,yz,rfl,aF,aC⟩:=Is.tup hIy;obtain⟨y0,hy0,hI0⟩:=IsL.at aC (show [hfD ρl.ns ρl.ps,ρl.R,PyData.int ρl.n][0]? = some (hfD ρl.ns ρl.ps) from rfl);obtain⟨y2,hy2,hI2⟩:=IsL.at aC (show [hfD ρl.ns ρl.ps,ρl.R,PyData.int ρl.n][2]? = some (.int ρl.n) from rfl);have hle:=a0.le;symm;refine M5 aA ?_;symm;refine Au aA (show atI xs ((xs.length:Int)-1)=_ by rw[show((xs.length:Int)-1)=((ρs.length-1:Nat):Int) by omega];exact Ag hy) ?_;symm;refine a74 ?_;symm;refine Au aF (show atI yz ((0:Nat):Int)=_ from Ag hy0) ?_;symm;refine⟨y0,ρl.ns,ρl.ps,rfl,hI0,a0.half,by omega,λt4 a4 b4 ks4 qs4 H4 e4 _ _ hA4 aD _=>?_⟩;symm;refine⟨v,ns,ps,rfl,hI.hf_fz (a1.trans e4).fz,hH,by omega,λt5 a5 b5 ks5 qs5 H5 e5 _ _ hA5 aE _=>?_⟩;obtain⟨p1,p2⟩:=aD.facts a0.half;obtain⟨p3,p4⟩:=aE.facts hH;symm;refine Rl (hA4.mono e5).is hA5.is (shp p1 (by omega)) (shp p3 (by omega)) ?_
     rw[show PyData.eqv (kyD ks4 qs4) (kyD ks5 qs5)=al by rw [A15,Ux,aD.iff aE a0.half.names.1 hn,hal];rfl]
     have U:=e4.trans e5
     cases al with
     |true=>symm;refine Au (U.seqT aF) (show atI yz ((2:Nat):Int)=_ from Ag hy2) ?_;symm;exact hN _ _ ⟨_,_,rfl,U,by rw[show tlW ρs.length none true=none by unfold tlW;rw[if_neg (by omega)];rfl];exact Is.mono U _ _ hI2⟩
     |false=>symm;refine M5 (U.seqT aA) ?_;symm;refine B3 (Ak (by simp)) λt6 H6 ht6 e6 h6=>?_;symm;exact hN _ _ ⟨_,_,rfl,U.trans e6,by rw[Vd (by omega)];exact Is.of_tup (SqT.of h6) (.cons (by simp only[Is]) (.one (by simp only[Is,aH])))⟩
 obtain⟨a7,x5,rfl,U,hdue⟩:=hM;have a8:=a1.trans U;symm;refine⟨v,_,ns,ps,ρs,o,al,ρl.n,rfl,hI.hf_fz a8.fz,hw,Is.mono a8 _ _ Y,aG,by omega,a2,fun ρ hρ=>by rw[hρl] at hρ;cases hρ;exact⟨rfl,hal⟩,λu6 H6 e6 hu6=>?_⟩;symm;refine Lf hu6 t1 t2 t3 ?_;symm;refine Lf (Is.mono e6 _ _ hdue) t1 t2 t3 ?_;symm;have aB:=a8.trans e6;refine⟨_,ρs,o,rfl,Is.mono aB _ _ Y,aG,by omega,a2,λu7 H7 e7 hu7=>?_⟩;symm;refine Lf hu7 f1 f2 f3 ?_;symm;refine Lf (Is.mono ((U.trans e6).trans e7) _ _ a6) f1 f2 f3 ?_;symm;have e17:=aB.trans e7;refine B3 (Ak (by simp)) λt8 H8 ht8 e8 h8=>?_;have a9:=e17.trans e8;symm;refine Lf (Is.of_tup (SqT.of h8) (.cons (Is.mono a9 _ _ hI) (.one (Is.mono a9 _ _ Y)))) r1 r2 r3 ?_;symm;rw[A0D rfl];exact k H8 a9
def Vw (ρs:List Dn)(ns:List Str)(ps:List (Str×Str))(k:Nat):Bool:=@decide (∃ ρ,ρs[k]? = some ρ/\AlH ρ.ns ρ.ps ns ps) (Classical.propDecidable _)
def alAt_iff {ρs:List Dn}{ns:List Str}{ps:List (Str×Str)}{k:Nat}:Vw ρs ns ps k=true↔∃ ρ,ρs[k]? = some ρ/\AlH ρ.ns ρ.ps ns ps:=by unfold Vw;exact @decide_eq_true_iff _ (Classical.propDecidable _)
def ad9 {ns ns':List Str}{ps ps':List (Str×Str)}(h:AlH ns ps ns' ps')(hn:ns.Nodup)(F:ns'.Nodup):ns.length=ns'.length:=(Iw hn F h.1).length_eq
theorem Tw {z:Str}:∀ {ns:List Str},ns.Nodup->z∈ns->(Gv ns z).length+1=ns.length
 | [],_,h=>by cases h
 |a :: ns,hn,h=>by
   obtain⟨h1,h2⟩:=A12.mp hn;unfold Gv
   by_cases ha:a=z
   . subst ha;rw[List.filter_cons_of_neg (by simp),List.filter_eq_self.mpr λy F=>by simpa using λ(e:y=a)=>h1 (e ▸ F)];rfl
   rw[List.filter_cons_of_pos (by simpa using ha),List.length_cons,List.length_cons];have:=Tw h2 ((A0G.mp h).elim (λe=>absurd e.symm ha) id);unfold Gv at this;omega
def av9:∀ n,1<=tN n
 |0=>by decide
 |n+1=>by unfold tN;omega
def RwsA.good {ρs:List Dn}{i:Nat}{ρ:Dn}(h:RwsA K S H p ρs)(F:ρs[i]? = some ρ):RwG ρ:=by obtain ⟨ys,_,h2,O⟩:=h;exact(O i ρ _ F (A00 (show i<ys.length by rw[h2];exact(A03.mp F).1))).1
theorem aj4 {B:Int}:∀ {ms:List Int},(∀ m∈ms,m<=B)->ms.sum<=(ms.length:Int)*B
 | [],_=>by simp
 |m :: ms,h=>by have h1:=h m (by simp);have h2:=aj4 (ms:=ms) λm hm=>h m (by simp[hm]);rw[A26,A0X,Int.natCast_succ,Int.add_mul];omega
theorem Xw:∀ {ms:List Int},(∀ m∈ms,0<=m)->0<=ms.sum
 | [],_=>by simp
 |m :: ms,h=>by have h1:=h m (by simp);have h2:=Xw (ms:=ms) λm hm=>h m (by simp[hm]);rw[A26];omega
def E3 (K:W.Frag)(N:Nat):Sp:=λvs H Q _=>∃(p:Addr) (v:V) (S:List Addr) (ns:List Str) (ps:List (Str×Str)) (ρs:List Dn),vs=[.ref p,v]/\p∈S/\(∀ q∈S,H q≠none)/\RwsA K S H p ρs/\Is K H (hfD ns ps) v/\Half ns ps/\ps.length<=21/\ns.length<N/\ns.length<=4/\ρs.length+tN ns.length<=900/\∀(i:Nat) ms H',ExtBut p H H'->RwsA K S H' p (ρs++ms)->ms.length<=tN ns.length->(∃ ρ,(ρs++ms)[i]? = some ρ/\ρ.ns.length=ns.length)->Q (.int (i:Int)) H'
def Gg (K:W.Frag):Sp:=E3 K 11
def Lq:∀ vs H Q E,¬ E3 K 0 vs H Q E:=by rintro vs H Q E ⟨_,_,_,_,_,_,_,_,_,_,_,_,_,h,_⟩;exact absurd h (Nat.not_lt_zero _)
theorem Qe (F:Fu K "_law_row" Il f fd)(T:Dy mg)(Ar:Fnd P w K mg base 2 "_law_key" ["_law_half_here"] (Cj K))(Bp:Fnd P w K mg base 2 "_law_only" ["_law_half_here","_law_left"] (D8 K))(Bs:Fnd P w K mg base 1 "_law_refs" ["_law_rule"] (Cy K))(Bq:Fnd P w K mg base 3 "_law_ends" ["_law_half_here","_law_word_here"] (Db K))(Aw:Fnd P w K mg base 2 "_law_number_of" ["_law_half_here","_law_rule","_law_rows"] (Bo K))(n:Nat)(D5:Fnd P w K mg base (4+n) "_law_row" ["_law_rows","_law_half_here"] (E3 K n)):FnOk P w K mg base CX0 (4+n+1) f fd ["_law_rows","_law_half_here"] (E3 K (n+1)):=by
 refine F.ok Dv (λvs H Q E h=>?_) (λcdv A outer s H vs Q E hr h=>?_)
 . obtain⟨p,v,S,ns,ps,ρs,rfl,_⟩:=h;rfl
 obtain⟨p,v,S,ns,ps,ρs,rfl,a8,aC,a1,hI,hH,hp21,hN,h4,h900,k⟩:=h;have hu:=Bh hr;have hq:=Bg hr;have hn:=hH.names.1
 have hsub:∀ {H':Hp},ExtBut p H H'->∀ {ms:List Dn},RwsA K S H' p (ρs++ms)->∀ q∈S,H' q≠none:=fun {H'} e {ms} hr q hq=>by
  by_cases bG:q=p
  . obtain⟨ys,h1,_⟩:=hr;rw[bG,h1];exact nofun
  cases hh:H q with
  |none=>exact absurd hh (aC q hq)
  |some o=>rw[e _ _ bG hh];exact nofun
 with_reducible refine⟨_,(A2 (Ai (i:=2) Dv.nd ⋯ (by with_unfolding_all exact A35 rfl) (An Ar (hr.mono (by omega)) ⋯ (A0 (pv 1) A1)))
  (A2 (C0 (i:=3) ["_law_k"] ["_law_rows","_law_key_here"] [0,2] ⋯ ⋯ ⋯ Dv.nd ⋯ ⋯ (Cu ⋯ T.b_range (A0 (A6 (Ab (K:=K)) ⋯ T.b_len PyProof.Rows.Boot.«len» (A0 (pv 0) A1)) A1)) (λ_ _ _ _=>(Ae (i:=0) (by with_unfolding_all (show(["_law_k","_law_rows","_law_key_here"]:List Str).Nodup;decide +kernel)) ⋯ (by eq_refl))) (Ap ∅) (λ_ _ _ _=>(Bw (A7 (Aq (K:=K) hq) (A9 (A4 (K:=K) hu) (A9 (A4 (K:=K) hu) (pv 1) (pv 0) (by ac_rfl)) A3 (by ac_rfl)) (pv 2) (Ac _)))) (λ_ _ _ _=>(pv 0)))
  (A2 (Av (A7 (C8 (K:=K) hq) (pv 3) (Bm A1) (Ac _)) (A5 (Aa (A9 (A4 (K:=K) hu) (pv 3) A3 (by ac_rfl)))) Ad)
  (A2 (Ai (i:=4) Dv.nd ⋯ (by eq_refl) (B0 (A0 Af A1)))
  (A2 (Av (A7 (C8 (K:=K) hq) (A9 (A4 (K:=K) hu) (pv 1) A3 (by ac_rfl)) (B0 A1) (Ac _)) (A2 (C0 (i:=5) ["_law_name"] ["_law_half_here"] [1] ⋯ ⋯ ⋯ Dv.nd ⋯ ⋯ (Ao (K:=K) hu (An Bq (hr.mono (by omega)) ⋯ (A0 (pv 1) (A0 Af A1)))) (λ_ _ _ _=>(Ae (i:=0) (by with_unfolding_all (show(["_law_name","_law_half_here"]:List Str).Nodup;decide +kernel)) ⋯ (by with_unfolding_all exact A35 rfl))) (Ap ∅) (λ_ _ _ _=>B2) (λ_ _ _ _=>(An Bp (hr.mono (by omega)) ⋯ (A0 (pv 1) (A0 (As ["_law_one"] ["_law_name"] [0] ⋯ ⋯ ⋯ (Ao (K:=K) hu (A9 (A4 (K:=K) hu) (pv 1) A3 (by ac_rfl))) (λ_ _ _ _=>(Ae (i:=0) (by with_unfolding_all (show(["_law_one","_law_name"]:List Str).Nodup;decide +kernel)) ⋯ (by eq_refl))) (Ap ∅) (λ_ _ _ _=>(Bw (A7 (C8 (K:=K) hq) (pv 0) (pv 1) (Ac _)))) (λ_ _ _ _=>(pv 0))) A1)))))
  (A5 (Ai (i:=4) Dv.nd ⋯ (by eq_refl) (B0 (A0 Af (A0 (Bd (Cg (K:=K)) ⋯ T.b_tuple PyProof.Rows.Boot.«tuple» (A0 (As ["_law_one"] ["_law_rows"] [0] ⋯ ⋯ ⋯ (Ao (K:=K) hu (pv 5)) (λ_ _ _ _=>(Ae (i:=0) (by with_unfolding_all (show(["_law_one","_law_rows"]:List Str).Nodup;decide +kernel)) ⋯ (by eq_refl))) (Ap ∅) (λ_ _ _ _=>B2) (λ_ _ _ _=>(An D5 (hr.mono (by omega)) ⋯ (A0 (pv 1) (A0 (pv 0) A1))))) A1)) A1)))))) Ad)
  (A2 (Do (Ig (K:=K) A1A A2M A2N (mm G3) (pv 0) (A0 (B0 (A0 (pv 1) (A0 (pv 4) (A0 (An Aw (hr.mono (by omega)) ⋯ (A0 (pv 1) (A0 (pv 4) (A0 (As ["_law_one"] ["_law_rows"] [0] ⋯ ⋯ ⋯ (Ao (K:=K) hu (An Bs (hr.mono (by omega)) ⋯ (A0 (pv 4) A1))) (λ_ _ _ _=>(Ae (i:=0) (by with_unfolding_all (show(["_law_one","_law_rows"]:List Str).Nodup;decide +kernel)) ⋯ (by eq_refl))) (Ap ∅) (λ_ _ _ _=>B2) (λ_ _ _ _=>(A9 (A4 (K:=K) hu) (pv 1) (pv 0) (by ac_rfl)))) A1)))) (A0 (pv 2) A1))))) A1)))
  (A5 (Aa (B1 Np (A6 (Ab (K:=K)) ⋯ T.b_len PyProof.Rows.Boot.«len» (A0 (pv 0) A1)) A3))))))))),?_⟩
 symm;refine⟨v,ns,ps,rfl,hI,hH,by omega,λt a b ks qs H1 e1 ha hb hA hO hql=>?_⟩;have b7:a∉S:=λh=>aC a h ha;have b8:b∉S:=λh=>aC b h hb;have hR1:=a1.same e1;obtain⟨ys,hy,a7,a4⟩:=hR1;symm;refine Iy (by omega) ?_;refine C4 (K:=K) Cb (List.range ys.length) (by rw[A01];rfl) (λi=>Vw ρs ns ps i) (λi=>PyData.int (i:Int)) (λ_=>rfl) (by rw[A01,A1S];omega) (λ_ _=>trivial) (λi j v1 H2 R R' Y hv e2 hR hR'=>?_) (λl2 zs H2 hl2 e2 h2 b3=>?_)
 . obtain⟨rfl,hi⟩:=Fs hv
   obtain rfl:j=i:=by rw[A52 (show i<ys.length from hi)] at Y;exact(A10 Y).symm
   have O:=A00 (show j<ρs.length by omega);have a6:=A00 hi;obtain⟨hG,t',u,r,kt,a',b',bI,aI,ey,aU,_,_,hA',b4,_,_⟩:=a4 j _ _ O a6;rw[ey] at a6;symm;refine Fv (e2 _ _ hy) (show atI ys (0+(j:Int))=_ by rw[Int.zero_add];exact Ag a6) ?_;symm;refine Au (e2.seqT aU) (show atI [u,r,V.int _,V.ref kt] ((3:Nat):Int)=_ from Ag rfl) ?_;symm;obtain⟨p1,p2⟩:=hO.facts hH;obtain⟨p3,p4⟩:=b4.facts hG.h.half;refine Rl (hA'.mono e2).is (hA.mono e2).is (shp p3 (by omega)) (shp p1 (by omega)) ?_
   have heq:PyData.eqv (kyD bI aI) (kyD ks qs)=Vw ρs ns ps j:=by rw[A15,Ux,b4.iff hO hG.h.half.names.1 hn,alAt_iff];exact⟨λh=>⟨_,O,h⟩,λ⟨ρ',h1,h2⟩=>by rw[O] at h1;cases h1;exact h2⟩
   rw[heq];symm;refine aj9 (λh=>?_) (λh=>?_)
   . symm;exact hR h _ _ (.refl _) (by simp only[Is,Int.zero_add])
   exact hR' h _ (.refl _)
 have hzs:=Gd (js:=((List.range ys.length).filter λi=>Vw ρs ns ps i).map λ(i:Nat)=>(i:Int)) (by rw[A1H];exact b3);subst hzs;generalize b9:((List.range ys.length).filter λi=>Vw ρs ns ps i)=fl at h2;symm;refine Br ∅ λl3 H3 hl3 e3 h3=>?_;refine ai1 (e3 _ _ h2) h3 ?_;have aL:=(e1.trans e2).trans e3;symm
 cases fl with
 |cons k0 fl=>
   have bB:k0∈k0 :: fl:=by simp
   rw[<- b9] at bB;obtain⟨ρ,O,aE⟩:=alAt_iff.mp (A0V.mp bB).2;obtain⟨hG,_⟩:=a4 k0 ρ _ O (A00 (show k0<ys.length by rw[a7];exact(A03.mp O).1));rw[A0K (by rfl)];symm;refine Fv (e3 _ _ h2) (show atI _ ((0:Nat):Int)=_ from Ag rfl) ?_;symm;exact k k0 [] H3 aL.but (by rw[A2B];exact a1.same aL) (A1W _) ⟨ρ,by rw[A2B];exact O,ad9 aE hG.h.half.names.1 hn⟩
 |nil=>
   rw[if_neg (by simp)];symm;refine B3 (Ak (by simp)) λt4 H4 ht4 e4 h4'=>?_;walk_at "rq";have aM:=aL.trans e4;have b2:=hA.mono ((e2.trans e3).trans e4);have hR4:=a1.same aM;have hp0:H p≠none:=aC p a8;have htN:=av9 ns.length;clear a4 hy a7 b9 h2 h3 b3
   with_reducible refine N1 (fun σ' H'=>∃ x5 rv R js ms,σ'=[some (.ref p),some v,some (.ref t),some (.ref l2),some rv,x5]/\ExtBut p H H'/\RwsA K S H' p (ρs++ms)/\ms.length+1<=tN ns.length/\Is K H' R rv/\Ru R js/\js.length<=7/\(∀ j∈js,0<=j/\∃ ρ,(ρs++ms)[j.toNat]? = some ρ)/\KyA K H' t a b ks qs/\(if Gx R=true then 1 else(nsS (ρs++ms) js).sum)<=7 ^ ns.length) (λN hN=>?_) (fun σ1 H9 hM=>?_)
   . symm;refine Hx (hI.hf_fz aM.fz) λnv hNv=>?_;symm;refine B3 ∅ λt5 H5 ht5 e5 h5=>?_;refine Vy (dx:=nmD ns) (dy:=.tuple []) (hNv.nm_fz e5.fz) (Is.of_tup (SqT.of h5) .nil) (as2 hH.names.2) (by rfl) ?_;rw[Y3];have aA:=aM.trans e5;symm;refine Wu (λhb=>?_) (λhb=>?_)
     . have hne:ns≠[]:=A2H hb;have hpos:1<=ns.length:=A57.mpr hne;symm;refine⟨v,"last",ns,ps,rfl,hI.hf_fz aA.fz,hH,by omega,.inl rfl,λl6 H6 hl6 e6 h6=>?_⟩;have aN:=aA.trans e6;have hel:(Op (decide (("last":Str) = "last")) (Ck ps) ns).length<=ns.length:=A1K _ _;generalize hends:Op (decide (("last":Str) = "last")) (Ck ps) ns=es at h6 hel;have hes:∀ z∈es,z∈ns:=λz hz=>by rw[<- hends] at hz;exact(A0V.mp hz).1
       refine Hq (SqL.of h6) ?_;refine Gh (β:=List Str×List (Str×Str)) (Bc (xs:=es.map V.str)) es (by rw[A01]) (λz d=>d.1.length+1=ns.length/\Half d.1 d.2/\d.2.length<=d.1.length*7) (λ_ H d y=>Is K H (hfE d) y) (λp H H' b y e fz h=>Is.fz fz _ _ (Mz _ _) h) (by rw[A01];omega) (λH' e=>SqL.of (e _ _ h6)) (λp' i z v1 H7 R R' hp' hz hv e7 hR7=>?_) (λl7 ys ds H7 aW e7 h7 a7 hdl hP=>?_)
       . rw[A06,hz] at hv
         cases hv;symm;have hzm:=hes z (A05 hz);have a2:=aN.trans e7;refine Hx (hI.hf_fz a2.fz) λnv7 hNv7=>?_;refine P0 hNv7 (λy=>!decide (y=z)) PyData.str (λ_=>rfl) (by omega) (λi y Z R R' hy U a3 hR8'=>?_) (λl8 ys Z hl8 U h8 hL8=>?_)
         . symm;refine M0 (λh=>?_) (λh=>?_)
           . symm;exact a3 (by simpa using λz=>h (congrArg V.str z)) _ _ (.refl _) (by simp only[Is])
           exact hR8' (by simpa using V.str.inj h) _ (.refl _)
         have a4:=IsL.str_eq hL8;subst a4;symm;refine⟨v,l8,ns,ps,Gv ns z,rfl,hI.hf_fz (a2.trans U).fz,hH,by omega,h8,hn.sublist A1P,λy hy=>(A0V.mp hy).1,λu aI H9 e9 hu hLf hlq=>?_⟩;exact hR7 (Gv ns z,aI) _ _ (U.trans e9) ⟨Tw hn hzm,hLf.half,hlq⟩ hu
       have a2:=aN.trans e7
       have hl7p:l7≠p:=λz=>by
        rw[z] at aW;obtain⟨_,g,_⟩:=a1;rw[aN _ _ g] at aW
        cases aW
       obtain⟨yp,aY,_⟩:=a1.same a2;have hpl:H7 p≠none:=by rw[aY];exact nofun
       have hT:tN ns.length=1+ns.length*tN (ns.length-1):=by obtain⟨m,hm⟩:∃ m,ns.length=m+1:=⟨ns.length-1,by omega⟩;rw[hm];rfl
       symm;refine Hq (SqL.of h7) ?_;refine Fq (Bc (xs:=ys)) (λq i acc Z=>∃(ms:List Dn) (is:List Nat),ExtBut p H7 Z/\RwsA K (q :: S) Z p (ρs++ms)/\ms.length<=i*tN (ns.length-1)/\acc=is.map (λ(n:Nat)=>V.int (n:Int))/\is.length=i/\∀ n∈is,∃ ρ,(ρs++ms)[n]? = some ρ/\ρ.ns.length=ns.length-1) (λq Z a9 U h8=>?_) (λq i acc Z hP=>?_) (λq i x acc Z a9 hx hi aE aD aS=>?_) (λq acc Z a9 aD aE aS=>?_)
       . exact⟨[],[],U.but,by rw[A2B];exact((a1.same a2).more a9).same U,A1W _,rfl,rfl,λ_ h=>by cases h⟩
       . obtain⟨_,_,U,_⟩:=hP;exact SqL.of (U _ _ hl7p h7)
       . obtain⟨ms,is,U,a3,aX,rfl,bA,aG⟩:=aS;have hzi:=A00 (show i<es.length by omega);have hdi:=A00 (show i<ds.length by omega);obtain⟨⟨g1,g2,g3⟩,hIx⟩:=hP i _ _ x hzi hdi hx;have bF:q≠p:=λz=>hpl (z ▸ a9);have aQ:Fz H7 Z:=U.fzL aY;have bC:(i+1)*tN (ns.length-1)<=ns.length*tN (ns.length-1):=Nat.mul_le_mul_right _ (by omega);rw[Nat.succ_mul] at bC;have aV:ds[i].1.length=ns.length-1:=by omega
         symm;refine⟨p,x,q :: S,ds[i].1,ds[i].2,ρs++ms,rfl,A0I _ a8,λq' aZ=>?_,a3,Is.fz aQ _ _ (Mz _ _) hIx,g2,by omega,by omega,by omega,by rw[aV,A08];omega,λi' ms' H9 e9 aB hml9 hi9=>?_⟩
         . rcases A0G.mp aZ with rfl|aZ
           . rw[aD];exact nofun
           exact hsub (a2.but.trans U) a3.less q' aZ
         rw[aV] at hml9;have h9:=e9 _ _ bF aD;refine J3 (by omega) hi aE h9 λaJ a0 b1=>?_;refine⟨ms++ms',is++[i'],λb o hb h=>a0 b o (ne_of_none h a9) ((U.trans e9) b o hb h),by rw[<- List.append_assoc];exact aB.lk (Lk.but a0 h9 (by simp)) λxs g=>a0 _ _ (Ne.symm bF) g,by rw[List.length_append,Nat.succ_mul];omega,by rw[List.map_append];rfl,by rw[List.length_append,bA];rfl,λn hn=>?_⟩;rw[<- A2K];rcases A0O.mp hn with hn|hn
         . obtain⟨ρ,h1,h2⟩:=aG n hn;exact⟨ρ,by rw[A1B (A03.mp h1).1];exact h1,h2⟩
         rw[A0Q.mp hn,<- aV];exact hi9
       obtain⟨ms,is,U,a3,aX,rfl,bA,aG⟩:=aS;have aQ:Fz H7 Z:=U.fzL aY;have bC:ys.length*tN (ns.length-1)<=ns.length*tN (ns.length-1):=Nat.mul_le_mul_right _ (by omega);symm;refine Fb (SqL.of aD) λt9 H9 ht9 e9 h9=>?_;symm;refine B3 (Ak (by simp)) λt10 aJ ht10 a0 b1=>?_;symm;have aO:=e9.trans a0;refine hN _ _ ⟨_,_,.tuple [.str "last",.tuple ((is.map λ(n:Nat)=>(n:Int)).map PyData.int)],is.map λ(n:Nat)=>(n:Int),ms,rfl,(a2.but.trans U).same aO,a3.less.same aO,by omega,Is.of_tup (SqT.of b1) (.cons (by simp only[Is]) (.one (Is.of_tup (SqT.of (a0 _ _ h9)) ?_))),.ends "last" (.inl rfl) _ (by rw[List.length_map];omega),by rw[List.length_map];omega,λj Y=>?_,((b2.mono ((e5.trans e6).trans e7)).but U aQ (λz=>b7 (z ▸ a8)) λz=>b8 (z ▸ a8)).mono aO,?_⟩
       . have:=Jz (K:=K) (H:=aJ) (is.map λ(n:Nat)=>(n:Int));rwa[A1H (f:=λ(n:Nat)=>(n:Int)) (g:=V.int)] at this
       . obtain⟨n,hn,rfl⟩:=A0A.mp Y;obtain⟨ρ,h1,_⟩:=aG n hn;exact⟨Int.natCast_nonneg _,ρ,h1⟩
       rw[if_neg (by simp[Gx])]
       have hB:∀ m∈nsS (ρs++ms) (is.map λ(n:Nat)=>(n:Int)),m<=(7:Int) ^ (ns.length-1):=λm hm=>by
        unfold nsS at hm;rw[A1H] at hm;obtain⟨n,hn,rfl⟩:=A0A.mp hm;obtain⟨ρ,h1,h2⟩:=aG n hn;have aF:atS (ρs++ms) (n:Int)=ρ:=by unfold atS;rw[Int.toNat_natCast,h1];rfl
        show(atS (ρs++ms) (n:Int)).n<=_;rw[aF,<- h2];exact(a3.good h1).n7
       have hs:=aj4 hB;have hnl:(nsS (ρs++ms) (is.map λ(n:Nat)=>(n:Int))).length<=4:=by unfold nsS;rw[List.length_map,List.length_map];omega
       obtain⟨m,hm⟩:∃ m,ns.length=m+1:=⟨ns.length-1,by omega⟩;rw[hm,A5D] at hs;rw[hm,Int.pow_succ]
       have h7:0<=(7:Int) ^ m:=by rcases(by omega:m=0\/m=1\/m=2\/m=3) with h|h|h|h<;>rw[h]<;>decide
       have:((nsS (ρs++ms) (is.map λ(n:Nat)=>(n:Int))).length:Int)*7 ^ m<=4*7 ^ m:=Int.mul_le_mul_of_nonneg_right (by omega) h7;omega
     symm;have hns:ns=[]:=A13 hb;refine hN _ _ ⟨_,_,.tuple [.str "row"],[],[],rfl,aA.but,by rw[List.append_nil];exact a1.same aA,by rw[List.length_nil];omega,Is.of_tup (SqT.of (e5 _ _ h4')) (.one (by simp only[Is])),.row,by simp,λ_ h=>(by cases h),b2.mono e5,?_⟩;rw[A0K (by rfl),hns];decide
   obtain⟨x5,rv,R,js,ms,rfl,e9,aB,aX,aR,aT,hjl,aH,hA9,bD⟩:=hM;have b5:=aB
   have fz9:Fz H H9:=by obtain⟨_,g,_⟩:=a1;exact e9.fzL g
   obtain⟨ys,hy,a7,a4⟩:=aB;rw[A08] at a7;symm;refine⟨rv,R,js,rfl,aR,aT,λja aJ a0 b6=>?_⟩;refine Ix b6 ?_;refine Gh (β:=V) (By (xs:=js.map V.int)) js (by rw[A01]) (λj b=>ys[j.toNat]? = some b) (λ_ _ b y=>y=b) (λ_ _ _ _ _ _ _ h=>h) (by rw[A01];omega) (λH' e=>e.seqT b6) (λp' i j v1 H11 R R' _ Y hv aK hR=>?_) (λl11 us bs H11 hl11 aK h11 hul hbl hP=>?_)
   . rw[A06,Y] at hv
     cases hv;obtain⟨j0,ρ,O⟩:=aH j (A05 Y);have hlt:=(A03.mp O).1;rw[A08] at hlt;have a6:=A00 (show j.toNat<ys.length by omega);symm;refine Fv ((a0.trans aK) _ _ hy) (Ks j0 a6) ?_;exact hR _ _ _ (.refl _) a6 rfl
   have aP:=a0.trans aK;have aF:∀ {j:Int} {ρ:Dn},(ρs++ms)[j.toNat]? = some ρ->atS (ρs++ms) j=ρ:=fun {j ρ} h=>by unfold atS;rw[h];rfl
   have bE:∀ m∈nsS (ρs++ms) js,0<=m/\m<=1000000000000:=λm hm=>by unfold nsS at hm;obtain⟨j,Y,rfl⟩:=A0A.mp hm;obtain⟨j0,ρ,O⟩:=aH j Y;rw[aF O];have:=b5.good O;exact⟨this.h.n0,this.h.n1⟩
   symm;refine⟨v,rv,l11,R,js,nsS (ρs++ms) js,us,rfl,Is.mono aP _ _ aR,aT,h11,by unfold nsS;rw[List.length_map];exact hul,λi m y hm hy'=>?_,bE,by unfold nsS;rw[List.length_map];omega,λH12 e12=>?_⟩
   . unfold nsS at hm;rw[A06] at hm;obtain⟨j,Y,rfl⟩:=A0Z.mp hm;obtain⟨j0,ρ,O⟩:=aH j (A05 Y);obtain⟨b',hb'⟩:∃ b,bs[i]? = some b:=⟨_,A00 (by rw[hbl];exact(A03.mp Y).1)⟩;obtain⟨hx,rfl⟩:=hP i j b' y Y hb' hy';obtain⟨_,t',u,r,kt,a',b',bI,aI,rfl,aU,_⟩:=a4 _ ρ y O hx;rw[aF O];exact⟨t',_,rfl,aP.seqT aU,rfl⟩
   generalize hnum:(if Gx R=true then 1 else(nsS (ρs++ms) js).sum)=num at bD
   have hnum0:0<=num:=by
    rw[<- hnum]
    split
    . decide
    exact Xw λm hm=>(bE m hm).1
   have h74:(7:Int) ^ ns.length<=2401:=by rcases(by omega:ns.length=0\/ns.length=1\/ns.length=2\/ns.length=3\/ns.length=4) with h|h|h|h|h<;>rw[h]<;>decide
   have e912:=aP.trans e12;symm;refine B3 (Ak (by simp)) λbJ H13 ht13 e13' h13=>?_;symm;have a5:=e912.trans e13';have bH:=a5 _ _ hy;refine Uv bH (by omega) λH14 b0 h14=>?_;symm
   have hjb:∀ j∈js,-1<=j/\j<=1000:=λj Y=>by obtain⟨j0,ρ,O⟩:=aH j Y;have:=(A03.mp O).1;rw[A08] at this;omega
   have hRn:=(b5.same a5).snoc (ρ:=⟨ns,ps,R,js,num⟩) bH b0 a8 h14 ⟨⟨hnum0,by show num<=_;omega,hH,h4,hp21,aT,by show js.length<=20;omega,hjb⟩,bD⟩ ⟨bJ,v,rv,t,a,b,ks,qs,rfl,SqT.of h13,Is.fz (fz9.trans a5.fz) _ _ (Mz _ _) hI,Is.mono a5 _ _ aR,hA9.mono a5,hO,b7,b8⟩;have:=k (ρs.length+ms.length) (ms++[⟨ns,ps,R,js,num⟩]) H14 ((e9.same a5).trans b0) (by rw[<- A2K];exact hRn) (by rw[A08];exact aX) ⟨⟨ns,ps,R,js,num⟩,by rw[<- A2K,A17 (by rw[A08];exact A0B _),A08,Nat.sub_self];rfl,rfl⟩;rw[show((ys++[V.ref bJ]).length:Int)-1=((ρs.length+ms.length:Nat):Int) by rw[A08,A1C,a7];omega];exact this
theorem Th (F:Fu K "_law_row" Il f fd)(T:Dy mg)(Ar:Fnd P w K mg base 2 "_law_key" ["_law_half_here"] (Cj K))(Bp:Fnd P w K mg base 2 "_law_only" ["_law_half_here","_law_left"] (D8 K))(Bs:Fnd P w K mg base 1 "_law_refs" ["_law_rule"] (Cy K))(Bq:Fnd P w K mg base 3 "_law_ends" ["_law_half_here","_law_word_here"] (Db K))(Aw:Fnd P w K mg base 2 "_law_number_of" ["_law_half_here","_law_rule","_law_rows"] (Bo K))(hm:mg "_law_row" = some (.ref f))(U:W.keepIn K (.ref f)=true)(O:Binds K fd ["_law_rows","_law_half_here"] []):FnOk P w K mg base CX0 15 f fd ["_law_rows","_law_half_here"] (Gg K):=by
 have h:∀ n:Nat,FnOk P w K mg base CX0 (4+n) f fd ["_law_rows","_law_half_here"] (E3 K n):=λn=>by
  induction n with
  |zero=>exact FnOk.void Lq
  |succ n ih=>exact Qe F T Ar Bp Bs Bq Aw n ⟨f,fd,ih,hm,U,O⟩
 exact h 11
def Jd (K:W.Frag):Sp:=λvs H Q _=>∃(d l p:Addr) (v:V) (S:List Addr) (ns:List Str) (ps:List (Str×Str)) (ρs:List Dn),vs=[.ref d,.ref p,v]/\Feed H d l/\RwsA K S H p ρs/\Is K H (hfD ns ps) v/\Half ns ps/\ns.length<=4/\1<=ρs.length/\ρs.length<=900/\∀(j:Int) H',ExtBut d H H'->Feed H' d l -> -1<=j->j<=1000->Q (.int j) H'
theorem T7 (F:Fu K "_law_ref" Ln f fd)(T:Dy mg)(Ah:Fnd P w K mg base 1 "_law_draw" ["_law_feed_here","_law_many"] (Bv K))(Ar:Fnd P w K mg base 2 "_law_key" ["_law_half_here"] (Cj K)):FnOk P w K mg base CX0 3 f fd ["_law_feed_here","_law_rows","_law_half_here"] (Jd K):=by
 refine F.ok Gm (λvs H Q E h=>?_) (λcdv A outer s H vs Q E hr h=>?_)
 . obtain⟨d,l,p,v,S,ns,ps,ρs,rfl,_⟩:=h;rfl
 obtain⟨d,l,p,v,S,ns,ps,ρs,rfl,hF,hRs,hI,hH,h4,hr1,hr9,k⟩:=h;have hu:=Bh hr;have hq:=Bg hr;have hn:=hH.names.1
 with_reducible refine⟨_,(A2 (Ai (i:=3) Gm.nd ⋯ (by with_unfolding_all exact A35 rfl) (An Ar (hr.mono ∅) ⋯ (A0 (pv 2) A1)))
  (A2 (C0 (i:=4) ["_law_k"] ["_law_rows","_law_key_here"] [1,3] ⋯ ⋯ ⋯ Gm.nd ⋯ ⋯ (Cu ⋯ T.b_range (A0 (A6 (Ab (K:=K)) ⋯ T.b_len PyProof.Rows.Boot.«len» (A0 (pv 1) A1)) A1)) (λ_ _ _ _=>(Ae (i:=0) (by with_unfolding_all (show(["_law_k","_law_rows","_law_key_here"]:List Str).Nodup;decide +kernel)) ⋯ (by eq_refl))) (Ap ∅) (λ_ _ _ _=>(Bw (A7 (Aq (K:=K) hq) (A9 (A4 (K:=K) hu) (A9 (A4 (K:=K) hu) (pv 1) (pv 0) (by ac_rfl)) A3 (by ac_rfl)) (pv 2) (Ac _)))) (λ_ _ _ _=>(pv 0)))
  (A2 (Ai (i:=5) Gm.nd ⋯ (by eq_refl) (An Ah (hr.mono ∅) ⋯ (A0 (pv 0) (A0 A3 A1))))
  (A2 (Av (PW.pt (R7 (A7 Vs (pv 5) A3 (Ac _)) (Q6 (A7 (C8 (K:=K) hq) (pv 4) (Bm A1) (Ac _))))) (A5 (Aa (A9 (A4 (K:=K) hu) (pv 4) (An Ah (hr.mono ∅) ⋯ (A0 (pv 0) (A0 (A6 (Ab (K:=K)) ⋯ T.b_len PyProof.Rows.Boot.«len» (A0 (pv 4) A1)) A1))) (by ac_rfl)))) Ad)
  (A2 (Av (A7 (Aq (K:=K) hq) (pv 5) A3 (Ac _)) (A5 (Aa (A9 (A4 (K:=K) hu) (Bm (A0 (Wm Ol A3) (A0 (A6 (Ab (K:=K)) ⋯ T.b_len PyProof.Rows.Boot.«len» (A0 (pv 1) A1)) (A0 (B1 (B7 (K:=K)) (A6 (Ab (K:=K)) ⋯ T.b_len PyProof.Rows.Boot.«len» (A0 (pv 1) A1)) A3) A1)))) (An Ah (hr.mono ∅) ⋯ (A0 (pv 0) (A0 A3 A1))) (by ac_rfl)))) Ad)
  (A5 (Aa (An Ah (hr.mono ∅) ⋯ (A0 (pv 0) (A0 (A6 (Ab (K:=K)) ⋯ T.b_len PyProof.Rows.Boot.«len» (A0 (pv 1) A1)) A1)))))))))),?_⟩
 symm;refine⟨v,ns,ps,rfl,hI,hH,by omega,λt a b ks qs H1 e1 ha hb hA hO hql=>?_⟩;obtain⟨ys,hy,hyl,aE⟩:=hRs.same e1;symm;refine Iy (by omega) ?_;refine C4 (K:=K) Cb (List.range ys.length) (by rw[A01];rfl) (λi=>Vw ρs ns ps i) (λi=>PyData.int (i:Int)) (λ_=>rfl) (by rw[A01,A1S];omega) (λ_ _=>trivial) (λi j v1 H2 R R' hj hv e2 hR hR'=>?_) (λl2 zs H2 hl2 e2 h2 a9=>?_)
 . obtain⟨rfl,hi⟩:=Fs hv
   obtain rfl:j=i:=by rw[A52 (show i<ys.length from hi)] at hj;exact(A10 hj).symm
   have hρ:=A00 (show j<ρs.length by omega);have a7:=A00 hi;obtain⟨hG,t',u,r,kt,a',b',ks',qs',ey,hS',_,_,hA',aA,_,_⟩:=aE j _ _ hρ a7;rw[ey] at a7;symm;refine Fv (e2 _ _ hy) (show atI ys (0+(j:Int))=_ by rw[Int.zero_add];exact Ag a7) ?_;symm;refine Au (e2.seqT hS') (show atI [u,r,V.int _,V.ref kt] ((3:Nat):Int)=_ from Ag rfl) ?_;symm;obtain⟨p1,p2⟩:=hO.facts hH;obtain⟨p3,p4⟩:=aA.facts hG.h.half;refine Rl (hA'.mono e2).is (hA.mono e2).is (shp p3 (by omega)) (shp p1 (by omega)) ?_
   have heq:PyData.eqv (kyD ks' qs') (kyD ks qs)=Vw ρs ns ps j:=by rw[A15,Ux,aA.iff hO hG.h.half.names.1 hn,alAt_iff];exact⟨λh=>⟨_,hρ,h⟩,λ⟨ρ',h1,h2⟩=>by rw[hρ] at h1;cases h1;exact h2⟩
   rw[heq];symm;refine aj9 (λh=>?_) (λh=>?_)
   . symm;exact hR h _ _ (.refl _) (by simp only[Is,Int.zero_add])
   exact hR' h _ (.refl _)
 have hzs:=Gd (js:=((List.range ys.length).filter λi=>Vw ρs ns ps i).map λ(i:Nat)=>(i:Int)) (by rw[A1H];exact a9);subst hzs
 have aB:∀ x∈((List.range ys.length).filter λi=>Vw ρs ns ps i).map λ(i:Nat)=>(i:Int),0<=x/\x<900:=λx hx=>by obtain⟨i,hi,rfl⟩:=A0A.mp hx;have:=A28.mp (A0V.mp hi).1;omega
 have hfl:(((List.range ys.length).filter λi=>Vw ρs ns ps i).map λ(i:Nat)=>(i:Int)).length<=900:=by have:=A1K (λi=>Vw ρs ns ps i) (List.range ys.length);rw[A01];rw[A1S] at this;omega
 generalize (((List.range ys.length).filter λi=>Vw ρs ns ps i).map λ(i:Nat)=>(i:Int))=js at h2 aB hfl;have a8:=e1.trans e2;have a5:=hF.same a8;have aD:=e2 _ _ hy;clear aE a9;symm;refine⟨d,l,_,rfl,a5,by omega,by omega,λway H3 hw0 hw1 e3 a6=>?_⟩;have h3:=e3 _ _ (a5.lst h2) h2;have hy3:=e3 _ _ (a5.lst aD) aD;have a0:ExtBut d H H3:=a8.but.trans e3;symm;refine Gw (λhw=>?_) (λhw=>?_)
 . symm;refine Br ∅ λl4 H4 hl4 O a2=>?_;refine ai1 (O _ _ h3) a2 ?_;have a1:=a6.same O;symm;refine Wu (λhb=>?_) (λhb=>?_)
   . have hjp:0<js.length:=A57.mpr (by intro h;rw[h] at hb;cases hb);symm;refine⟨d,l,_,rfl,a1,by rw[A01];omega,by rw[A01];omega,λu Y a3 a4 U Z=>?_⟩;rw[A01] at a4;have aC:=A00 (show u.toNat<js.length by omega);have h5:=U _ _ (a1.lst (O _ _ h3)) (O _ _ h3);refine Fv h5 (Ks a3 (by rw[A06,aC];rfl)) ?_;obtain⟨b0,b1⟩:=aB _ (A05 aC);exact k _ Y ((a0.same O).trans U) Z (by omega) (by omega)
   symm;refine Gw (λh=>?_) (λ_=>?_)
   . injection h with h;omega
   symm;have hy4:=O _ _ hy3;refine⟨d,l,_,rfl,a1,by omega,by omega,λu Y a3 a4 U Z=>?_⟩;exact k _ Y ((a0.same O).trans U) Z (by omega) (by omega)
 symm;refine Gw (λh=>?_) (λ_=>?_)
 . symm;refine Br (Ak (by simp)) λl4 H4 hl4 O a2=>?_;have a1:=a6.same O;symm;refine⟨d,l,_,rfl,a1,by omega,by omega,λu Y a3 a4 U Z=>?_⟩;have h5:=U _ _ (a1.lst a2) a2;rcases(by omega:u=0\/u=1\/u=2) with rfl|rfl|rfl
   . refine Fv h5 rfl ?_;exact k _ Y ((a0.same O).trans U) Z (by omega) (by omega)
   . refine Fv h5 rfl ?_;exact k _ Y ((a0.same O).trans U) Z (by omega) (by omega)
   refine Fv h5 rfl ?_;exact k _ Y ((a0.same O).trans U) Z (by omega) (by omega)
 symm;refine⟨d,l,_,rfl,a6,by omega,by omega,λu Y a3 a4 U Z=>?_⟩;exact k _ Y (a0.trans U) Z (by omega) (by omega)
def ah0 {ns:List Str}{ps:List (Str×Str)}(h:Half ns ps)(F:ms.Perm ns):Half ms ps:=by obtain⟨ls,h1,h2⟩:=h.line;exact⟨⟨F.nodup_iff.mpr h.names.1,λz hz=>h.names.2 z (F.mem_iff.mp hz)⟩,by rw[F.length_eq];exact h.few,h.le,ls,h1.trans F.symm,h2⟩
def Dl (K:W.Frag):Sp:=λvs H Q _=>∃(d l p:Addr) (v F:V) (S:List Addr) (ns:List Str) (ps:List (Str×Str)) (D:PyData) (js:List Int) (ρs:List Dn),vs=[.ref d,.ref p,v,F]/\Feed H d l/\RwsA K S H p ρs/\Is K H (hfD ns ps) v/\Half ns ps/\ns.length<=4/\ps.length<=21/\Is K H D F/\Ru D js/\js.length<=20/\(∀ j∈js,-1<=j/\j<=1000)/\ρs.length<=900/\∀ u ρ H',ExtBut d H H'->Feed H' d l->RwH ρ->Is K H' (.tuple ((ρs++[ρ]).map rwS)) u->Q u H'
theorem Kt (F:Fu K "_law_with_last" Eg f fd)(T:Dy mg)(Ah:Fnd P w K mg base 1 "_law_draw" ["_law_feed_here","_law_many"] (Bv K))(B5:Fnd P w K mg base 2 "_law_shuffled" ["_law_feed_here","_law_some"] (C9 K))(Bs:Fnd P w K mg base 1 "_law_refs" ["_law_rule"] (Cy K))(Aw:Fnd P w K mg base 2 "_law_number_of" ["_law_half_here","_law_rule","_law_rows"] (Bo K)):FnOk P w K mg base CX0 3 f fd ["_law_feed_here","_law_rows","_law_half_here","_law_rule"] (Dl K):=by
 refine F.ok Ba (λvs H Q E h=>?_) (λcdv A outer s H vs Q E hr h=>?_)
 . obtain⟨d,l,p,v,rv,S,ns,ps,D,js,ρs,rfl,_⟩:=h;rfl
 obtain⟨d,l,p,v,rv,S,ns,ps,D,js,ρs,rfl,hF,a5,hI,hH,h4,hp21,aL,a9,aZ,hjb,hr9,k⟩:=h;have hu:=Bh hr;have hq:=Bg hr;have hn:=hH.names.1;obtain⟨ys,hy,aE,a6⟩:=a5;have a5:RwsA K S H p ρs:=⟨ys,hy,aE,a6⟩
 with_reducible refine⟨_,(A2 (Ai (i:=4) Ba.nd ⋯ (by eq_refl) (An Bs (hr.mono ∅) ⋯ (A0 (pv 3) A1)))
  (A2 (Ai (i:=5) Ba.nd ⋯ (by eq_refl) A3)
  (A2 (Av (A7 (Aq (K:=K) hq) (As ["_law_one"] ["_law_rows"] [1] ⋯ ⋯ ⋯ (Ao (K:=K) hu (pv 4)) (λ_ _ _ _=>(Ae (i:=0) (by with_unfolding_all (show(["_law_one","_law_rows"]:List Str).Nodup;decide +kernel)) ⋯ (by eq_refl))) (Ap ∅) (λ_ _ _ _=>(Bw (Bj (Pa Tj Ws A3 (pv 0) (A6 (Ab (K:=K)) ⋯ T.b_len PyProof.Rows.Boot.«len» (A0 (pv 1) A1)))))) (λ_ _ _ _=>(pv 0))) (Bm A1) (Ac _)) (A5 (Ai (i:=5) Ba.nd ⋯ (by eq_refl) (An Aw (hr.mono ∅) ⋯ (A0 (pv 2) (A0 (pv 3) (A0 (As ["_law_one"] ["_law_rows"] [1] ⋯ ⋯ ⋯ (Ao (K:=K) hu (pv 4)) (λ_ _ _ _=>(Ae (i:=0) (by with_unfolding_all (show(["_law_one","_law_rows"]:List Str).Nodup;decide +kernel)) ⋯ (by eq_refl))) (Ap ∅) (λ_ _ _ _=>B2) (λ_ _ _ _=>(A9 (A4 (K:=K) hu) (pv 1) (pv 0) (by ac_rfl)))) A1)))))) Ad)
  (A2 (Ai (i:=5) Ba.nd ⋯ (by eq_refl) (A6 (Yv ⋯) ⋯ T.b_max PyProof.Rows.Boot.«max» (A0 A3 (A0 (B1 (B7 (K:=K)) (pv 5) (A9 (A4 (K:=K) hu) (Bm (A0 A3 (A0 A3 (A0 A3 (A0 A3 (A0 A3 (A0 A3 (A0 (Wm Ol A3) (A0 (pv 5) A1))))))))) (An Ah (hr.mono ∅) ⋯ (A0 (pv 0) (A0 A3 A1))) (by ac_rfl))) A1))))
  (A2 (Ai (i:=6) Ba.nd ⋯ (by eq_refl) (A9 (A4 (K:=K) hu) (pv 2) A3 (by ac_rfl)))
  (A2 (Av (A7 (Aq (K:=K) hq) (An Ah (hr.mono ∅) ⋯ (A0 (pv 0) (A0 A3 A1))) A3 (Ac _)) (A5 (Ai (i:=6) Ba.nd ⋯ (by eq_refl) (Bd (Cg (K:=K)) ⋯ T.b_tuple PyProof.Rows.Boot.«tuple» (A0 (An B5 (hr.mono ∅) ⋯ (A0 (pv 0) (A0 (pv 6) A1))) A1)))) Ad)
  (A5 (Aa (B1 (B7 (K:=K)) (Bd (Cg (K:=K)) ⋯ T.b_tuple PyProof.Rows.Boot.«tuple» (A0 (As ["_law_row_here"] [] [] ⋯ ⋯ ⋯ (Ao (K:=K) hu (pv 1)) (λ_ _ _ _=>(Ae (i:=0) (by with_unfolding_all (show(["_law_row_here"]:List Str).Nodup;decide +kernel)) ⋯ (by eq_refl))) (Ap ∅) (λ_ _ _ _=>B2) (λ_ _ _ _=>(Bl (Q7 (K:=K)) (pv 0) Dd (Bk A3)))) A1)) (B0 (A0 (B0 (A0 (B0 (A0 (pv 6) (A0 (A9 (A4 (K:=K) hu) (pv 2) A3 (by ac_rfl)) A1))) (A0 (pv 3) (A0 (pv 5) A1)))) A1))))))))))),?_⟩
 symm;refine⟨rv,D,js,rfl,aL,a9,λja H1 e1 aA=>?_⟩;walk_at "rq"
 with_reducible refine N1 (fun σ' H'=>∃ U:Int,σ'=[some (.ref d),some (.ref p),some v,some rv,some (.ref ja),some (.int U),none]/\Same H H'/\0<=U/\U<=100000) (λN hN=>?_) (fun σ1 H5 hM=>?_)
 . symm;refine Ix aA ?_;refine C4 (K:=K) (By (xs:=js.map V.int)) js (by rw[A01]) (λj=>!(decide (0<=j)&&decide (j<(ys.length:Int)))) PyData.int (λ_=>rfl) (by rw[A01];omega) (λH' e=>e.seqT aA) (λi j v1 H2 R R' O hv e2 hR hR'=>?_) (λl2 zs H2 hl2 e2 h2 hL2=>?_)
   . rw[A06,O] at hv
     cases hv;have hy2:=(e1.trans e2) _ _ hy;symm;refine Gw (λh0=>?_) (λh0=>?_)
     . symm;refine M0 (λh1=>?_) (λh1=>?_)
       . symm;exact hR (by simp[h1]) _ _ (.refl _) (by simp only[Is])
       exact hR' (by simp[h0,h1]) _ (.refl _)
     symm;exact hR (by simp[h0]) _ _ (.refl _) (by simp only[Is])
   have hzs:=Gd hL2;subst hzs;symm;refine Br ∅ λl3 H3 hl3 e3 h3=>?_;refine aE9 (e3 _ _ h2) h3 ?_;have a1:=(e1.trans e2).trans e3;have aS:=e2.trans e3;symm;refine aj9 (λhb=>?_) (λhb=>?_)
   . have aY:∀ j∈js,0<=j/\j<(ys.length:Int):=λj O=>by have:=A4J.mp (List.isEmpty_iff.mp hb) j O;simp at this;omega
     symm;refine Ix (aS.seqT aA) ?_;refine Gh (β:=V) (By (xs:=js.map V.int)) js (by rw[A01]) (λj b=>ys[j.toNat]? = some b) (λ_ _ b y=>y=b) (λ_ _ _ _ _ _ _ h=>h) (by rw[A01];omega) (λH' e=>(aS.trans e).seqT aA) (λp' i j v1 H4 R R' _ O hv e4 hR=>?_) (λl4 us bs H4 hl4 e4 h4' aD aN hP=>?_)
     . rw[A06,O] at hv
       cases hv;obtain⟨j0,j1⟩:=aY j (A05 O);have b1:=A00 (show j.toNat<ys.length by omega);symm;refine Fv ((a1.trans e4) _ _ hy) (Ks j0 b1) ?_;exact hR _ _ _ (.refl _) b1 rfl
     have a0:=a1.trans e4
     have aX:∀ j∈js,∃ ρ,ρs[j.toNat]? = some ρ/\atS ρs j=ρ:=λj O=>by obtain⟨j0,j1⟩:=aY j O;have h:=A00 (show j.toNat<ρs.length by omega);exact⟨_,h,by unfold atS;rw[h];rfl⟩
     have aB:∀ m∈nsS ρs js,0<=m/\m<=2401:=λm hm=>by unfold nsS at hm;obtain⟨j,O,rfl⟩:=A0A.mp hm;obtain⟨ρ,Z,he⟩:=aX j O;rw[he];have hg:=a5.good Z;have hle:=hg.h.le;refine⟨hg.h.n0,Int.le_trans hg.n7 ?_⟩;rcases(by omega:ρ.ns.length=0\/ρ.ns.length=1\/ρ.ns.length=2\/ρ.ns.length=3\/ρ.ns.length=4) with h|h|h|h|h<;>rw[h]<;>decide
     symm;refine⟨v,rv,l4,D,js,nsS ρs js,us,rfl,Is.mono a0 _ _ aL,a9,h4',by unfold nsS;rw[List.length_map];exact aD,λi m y hm aO=>?_,λm hm=>⟨(aB m hm).1,Int.le_trans (aB m hm).2 ∅⟩,by unfold nsS;rw[List.length_map];omega,λH5 e5=>?_⟩
     . unfold nsS at hm;rw[A06] at hm;obtain⟨j,O,rfl⟩:=A0Z.mp hm;obtain⟨ρ,Z,he⟩:=aX j (A05 O);obtain⟨b',hb'⟩:∃ b,bs[i]? = some b:=⟨_,A00 (by rw[aN];exact(A03.mp O).1)⟩;obtain⟨hx,rfl⟩:=hP i j b' y O hb' aO;obtain⟨_,t',u,r,kt,a',b',ks',qs',rfl,aM,_⟩:=a6 _ ρ y Z hx;rw[he];exact⟨t',_,rfl,a0.seqT aM,rfl⟩
     symm;refine hN _ _ ⟨_,rfl,a0.trans e5,?_,?_⟩
     . split
       . decide
       exact Xw λm hm=>(aB m hm).1
     split
     . decide
     have:=aj4 λm hm=>(aB m hm).2;have hl:(nsS ρs js).length<=20:=by unfold nsS;rw[List.length_map];exact aZ
     omega
   symm;exact hN _ _ ⟨_,rfl,a1,by decide,by decide⟩
 obtain⟨U,rfl,e5,hn0,hn1⟩:=hM;have hF5:=hF.same e5;symm;refine Br (Ak (by simp)) λl6 H6 hl6 e6 h6=>?_;have a4:=hF5.same e6;symm;refine⟨d,l,_,rfl,a4,by omega,by omega,λu H7 hu0 hu1 e7 a2=>?_⟩;have h7:=e7 _ _ (a4.lst h6) h6
 obtain⟨c,hc,hc0,hc1⟩:∃ c:Int,atI [V.int 0,V.int 0,V.int 0,V.int 0,V.int 0,V.int 1,V.int (-1),V.int U] u=some (.int c) /\ -1<=c/\c<=100000:=by rcases(by omega:u=0\/u=1\/u=2\/u=3\/u=4\/u=5\/u=6\/u=7) with rfl|rfl|rfl|rfl|rfl|rfl|rfl|rfl<;>exact⟨_,rfl,by omega,by omega⟩
 have e17:ExtBut d H H7:=(e5.trans e6).but.trans e7;have aU:Fz H H7:=(e5.trans e6).fz.trans (a4.fz e7);have hR7:=(a5.same (e5.trans e6)).lk (Lk.draw e7 a4) λxs g=>e7 _ _ (a4.lst g) g;refine Fv h7 hc ?_;symm;refine⟨0,U+c,rfl,?_⟩;have b0:0<=(if U+c>0 then U+c else 0)/\(if U+c>0 then U+c else 0)<=200000:=by split<;>omega
 generalize (if U+c>0 then U+c else 0)=n2 at b0
 symm;refine Hx (hI.hf_fz aU) λnv hNv=>?_;walk_at "rq";clear hy aE a6 a5
 with_reducible refine N1 (fun σ' H'=>∃ aP ns',σ'=[some (.ref d),some (.ref p),some v,some rv,some (.ref ja),some (.int n2),some aP]/\ExtBut d H7 H'/\Fz H7 H'/\Feed H' d l/\Is K H' (nmD ns') aP/\ns'.Perm ns) (λN hN=>?_) (fun σ1 H9 hM=>?_)
 . symm;refine⟨d,l,_,rfl,a2,by omega,by omega,λw H8 hw0 hw1 e8 aJ=>?_⟩;have aW:=hNv.nm_fz (a2.fz e8);symm;refine Gw (λ_=>?_) (λ_=>?_)
   . obtain⟨na,rfl,hSn⟩:=aW.nm;symm;refine⟨d,l,na,_,rfl,aJ,.inr hSn,by rw[A01];omega,λp9 ys9 H9 hp9 e9 aK h9 hperm=>?_⟩;obtain⟨ls,rfl,aC⟩:=Lp hperm;symm;refine Fb (SqL.of h9) λt10 aF ht10 Y aI=>?_;symm;exact hN _ _ ⟨_,ls,rfl,(e8.trans e9).same Y,((a2.fz e8).trans (aJ.fz e9)).trans Y.fz,aK.same Y,Z7 (SqT.of aI),aC⟩
   symm;exact hN _ _ ⟨_,ns,rfl,e8,a2.fz e8,aJ,aW,.refl _⟩
 obtain⟨aP,ns',rfl,e9,aV,aK,hN9,aC⟩:=hM;have fz19:=aU.trans aV;have hR9:=hR7.lk ⟨aV,λa xs _ h=>e9 _ _ (a2.lst h) h⟩ λxs g=>e9 _ _ (a2.lst g) g;obtain⟨ys,hy,aE,a6⟩:=hR9;symm;refine Hq (SqL.of hy) ?_;refine Gh (β:=Dn) (Bc (xs:=ys)) ρs aE.symm (fun ρ b=>b=ρ) (λ_ H b y=>a65 b/\Is K H (rwS b) y) (λp H H' b y e fz h=>⟨h.1,Is.fz fz _ _ (a99 h.1) h.2⟩) (by omega) (λH' e=>SqL.of (e _ _ hy)) (λp' i ρ v1 aF R R' _ Z hv Y hR=>?_) (λl10 us bs aF hl10 Y aI aD aN hP=>?_)
 . obtain⟨hg,t',u',r,kt,a',b',ks',qs',rfl,aM,hu',hr',_⟩:=a6 i ρ _ Z hv;symm;refine Z8 (Y.seqT aM) λq11 H11 a3 a8=>?_;rw[Gs (by omega)] at a8;have aR:=Y.trans a3;exact hR ρ _ _ a3 rfl ⟨hg.h.ok,Is.of_tup a8 (.cons (Is.mono aR _ _ hu') (.cons (Is.mono aR _ _ hr') (.one (by simp only[Is]))))⟩
 have hLu:IsL K aF (ρs.map rwS) us:=Uq aD λi ρ y Z aO=>by have hb:=A00 (show i<bs.length by rw[aN];exact(A03.mp Z).1);obtain⟨h1,_,h2⟩:=hP i ρ _ y Z hb aO;rw[h1] at h2;exact h2
 symm;refine Fb (SqL.of aI) λt11 H11 ht11 a3 a8=>?_;have aT:=(fz19.trans Y.fz).trans a3.fz;symm;refine Xj (hI.hf_fz aT) λsv hSv=>?_;symm;refine B3 (Ak (by simp)) λt12 H12 ht12 e12 h12=>?_;symm;refine B3 (Ak (by simp)) λt13 H13 ht13 a1 h13=>?_;symm;refine B3 (Ak (by simp)) λt14 H14 ht14 a0 h14=>?_;have aQ:=(e12.trans a1).trans a0;refine ay6 (SqT.of (aQ _ _ a8)) (SqT.of h14) (Ak (by rw[aD];simp;omega)) λt15 H15 aH h15=>?_;have aG:=aQ.trans aH;have a7:=a3.trans aG;refine k (.ref t15) ⟨ns',ps,D,js,n2⟩ H15 ((e17.trans e9).same (Y.trans a7)) (aK.same (Y.trans a7)) ⟨b0.1,by show n2<=_;omega,ah0 hH aC,by show ns'.length<=4;rw[aC.length_eq];exact h4,hp21,a9,aZ,hjb⟩ ?_;rw[A0R];refine Is.of_tup h15 (IsL.append (IsL.mono a7 _ _ hLu) (.one (Is.of_tup (SqT.of ((a0.trans aH) _ _ h13)) (.cons (a46 (SqT.of (((a1.trans a0).trans aH) _ _ h12)) (hN9.nm_fz (Y.trans a7).fz) (hSv.ps_fz aG.fz)) (.cons (Is.fz (aT.trans aG.fz) _ _ a9.frz aL) (.one (by simp only[Is])))))))
def G8 (K:W.Frag):Sp:=λvs H Q _=>∃(d l p:Addr) (v:V) (ns:List Str) (ps:List (Str×Str)) (ρs:List Dn),vs=[.ref d,.ref p,v]/\Feed H d l/\l≠p/\RwsA K [p] H p ρs/\Is K H (hfD ns ps) v/\Half ns ps/\ns.length<=4/\1<=ρs.length/\ρs.length<=500/\∀ u D js ms H',Fz H H'->Feed H' d l->RwsA K [p] H' p (ρs++ms)->ms.length<=64->Is K H' D u->Ru D js->js.length<=20->(∀ j∈js,-1<=j/\j<=1000)->Q u H'
structure EdJ (K:W.Frag)(d l p:Addr)(ρs:List Dn)(H:Hp)(B:Nat)(q:Addr)(js:List Int)(H':Hp):Prop where
 fz:Fz H H'
 feed:Feed H' d l
 rows:RwsA K [q,p] H' p ρs
 qp:q≠p
 lq:l≠q
 dq:d≠q
 lst:H' q=some (.lst (js.map V.int))
 len:js.length<=B
 jb:∀ j∈js,-1<=j/\j<=1000
theorem EdJ.same {ρs:List Dn}{B:Nat}{js:List Int}(h:EdJ K d l p ρs H B q js H')(e:Same H' H2):EdJ K d l p ρs H B q js H2:=⟨h.fz.trans e.fz,h.feed.same e,h.rows.same e,h.qp,h.lq,h.dq,e _ _ h.lst,h.len,h.jb⟩
def EdJ.le {ρs:List Dn}{B F:Nat}{js:List Int}(h:EdJ K d l p ρs H B q js H')(O:B<=F):EdJ K d l p ρs H F q js H':=⟨h.fz,h.feed,h.rows,h.qp,h.lq,h.dq,h.lst,A0M h.len O,h.jb⟩
def EdJ.new {U:Addr}{ρs:List Dn}{B Y:Nat}{js O:List Int}(h:EdJ K d l p ρs H B q js H')(F:H' U=none)(e:Same H' H2)(hl:H2 U=some (.lst (O.map V.int)))(Z:O.length<=Y)(hj:∀ j∈O,j∈js):EdJ K d l p ρs H Y U O H2:=by have hr:=h.rows.less.more F;obtain⟨_,g,_⟩:=h.rows;exact⟨h.fz.trans e.fz,h.feed.same e,hr.same e,Ne.symm (ne_of_none g F),h.feed.nl F,h.feed.nd F,hl,Z,λj a0=>h.jb j (hj j a0)⟩
theorem Px (F:Fu K "_law_ended" Hl f fd)(T:Dy mg)(Ah:Fnd P w K mg base 1 "_law_draw" ["_law_feed_here","_law_many"] (Bv K))(Bp:Fnd P w K mg base 2 "_law_only" ["_law_half_here","_law_left"] (D8 K))(Bq:Fnd P w K mg base 3 "_law_ends" ["_law_half_here","_law_word_here"] (Db K))(D5:Fnd P w K mg base 15 "_law_row" ["_law_rows","_law_half_here"] (Gg K))(L9:Fnd P w K mg base 3 "_law_ref" ["_law_feed_here","_law_rows","_law_half_here"] (Jd K)):FnOk P w K mg base CX0 16 f fd ["_law_feed_here","_law_rows","_law_half_here"] (G8 K):=by
 refine F.ok Bb (λvs H Q E h=>?_) (λcdv A outer s H vs Q E hr h=>?_)
 . obtain⟨d,l,p,v,ns,ps,ρs,rfl,_⟩:=h;rfl
 obtain⟨d,l,p,v,ns,ps,ρs,rfl,hF,hlp,bF,hI,hH,h4,hr1,hr5,k⟩:=h;have hu:=Bh hr;have hq:=Bg hr;have hn:=hH.names.1
 with_reducible refine⟨_,(A2 (Ai (i:=3) Bb.nd ⋯ (by eq_refl) (A9 (A4 (K:=K) hu) (Bm (A0 Af (A0 Af A1))) (An Ah (hr.mono ∅) ⋯ (A0 (pv 0) (A0 A3 A1))) (by ac_rfl)))
  (A2 (Ai (i:=4) Bb.nd ⋯ (by eq_refl) (Bm A1))
  (A2 (E4 A18 ⋯ (Ao (K:=K) hu (An Bq (hr.mono ∅) ⋯ (A0 (pv 2) (A0 (pv 3) A1)))) (Ae (i:=5) Bb.nd ⋯ (by with_unfolding_all exact A35 rfl))
  (A2 (Ai (i:=6) Bb.nd ⋯ (by eq_refl) (An Bp (hr.mono ∅) ⋯ (A0 (pv 2) (A0 (As ["_law_one"] ["_law_name"] [5] ⋯ ⋯ ⋯ (Ao (K:=K) hu (A9 (A4 (K:=K) hu) (pv 2) A3 (by ac_rfl))) (λ_ _ _ _=>(Ae (i:=0) (by with_unfolding_all (show(["_law_one","_law_name"]:List Str).Nodup;decide +kernel)) ⋯ (by eq_refl))) (Ap ∅) (λ_ _ _ _=>(Bw (A7 (C8 (K:=K) hq) (pv 0) (pv 1) (Ac _)))) (λ_ _ _ _=>(pv 0))) A1))))
  (A2 (Do (An D5 (hr.mono ∅) ⋯ (A0 (pv 1) (A0 (pv 6) A1))))
  (A5 (Do (Ig (K:=K) A1A A2M A2N (mm G3) (pv 4) (A0 (An L9 (hr.mono ∅) ⋯ (A0 (pv 0) (A0 (pv 1) (A0 (pv 6) A1)))) A1)))))))
  (A2 (Ai (i:=7) Bb.nd ⋯ (by eq_refl) (An Ah (hr.mono ∅) ⋯ (A0 (pv 0) (A0 A3 A1))))
  (A2 (Ai (i:=8) Bb.nd ⋯ (by eq_refl) (An Ah (hr.mono ∅) ⋯ (A0 (pv 0) (A0 (B1 (B7 (K:=K)) (A6 (Ab (K:=K)) ⋯ T.b_len PyProof.Rows.Boot.«len» (A0 (pv 4) A1)) A3) A1))))
  (A2 (Av (A7 (Aq (K:=K) hq) (pv 7) A3 (Ac _)) (A5 (Ai (i:=4) Bb.nd ⋯ (by eq_refl) (B1 (B7 (K:=K)) (Bl (Q7 (K:=K)) (pv 4) Dd (Bk (pv 8))) (Bl (Q7 (K:=K)) (pv 4) (Bk (B1 (B7 (K:=K)) (pv 8) A3)) Dd)))) Ad)
  (A2 (Av (A7 (Aq (K:=K) hq) (pv 7) A3 (Ac _)) (A5 (Ai (i:=4) Bb.nd ⋯ (by eq_refl) (B1 (B7 (K:=K)) (B1 (B7 (K:=K)) (Bl (Q7 (K:=K)) (pv 4) Dd (Bk (pv 8))) (Bl (Q7 (K:=K)) (pv 4) Dd (Bk A3))) (Bl (Q7 (K:=K)) (pv 4) (Bk (pv 8)) Dd)))) Ad)
  (A2 (Av (A7 (Aq (K:=K) hq) (pv 7) A3 (Ac _)) (A5 (Do (ai0 (K:=K) A1A PySem.F.slot_list_reverse PySem.F.type_list_reverse (mm W2) (pv 4)))) Ad)
  (A2 (Av (A7 (Aq (K:=K) hq) (pv 7) A3 (Ac _)) (A5 (Ai (i:=3) Bb.nd ⋯ (by eq_refl) (A9 (A4 (K:=K) hu) (Bm (A0 Af (A0 Af A1))) (Bd Mk ⋯ T.b_int PyProof.Rows.Boot.«int» (A0 (At (Aq (K:=K) hq) (pv 3) Af (Ac _)) A1)) (by ac_rfl)))) Ad)
  (A5 (Aa (B0 (A0 (pv 3) (A0 (Bd (Cg (K:=K)) ⋯ T.b_tuple PyProof.Rows.Boot.«tuple» (A0 (pv 4) A1)) A1)))))))))))))),?_⟩
 symm;refine Br (Ak (by simp)) λl1 H1 hl1 e1 h1=>?_;have aB:=hF.same e1;symm;refine⟨d,l,_,rfl,aB,by omega,by omega,λw H2 hw0 hw1 e2 aC=>?_⟩;have h2:=e2 _ _ (aB.lst h1) h1
 obtain⟨wd,hwd,hww⟩:∃ wd:Str,atI [V.str "last",V.str "first"] w=some (.str wd)/\(wd = "last" \/ wd = "first"):=by
  rcases(by omega:w=0\/w=1) with rfl|rfl
  . exact⟨_,rfl,.inl rfl⟩
  exact⟨_,rfl,.inr rfl⟩
 refine Fv h2 hwd ?_;have b8:Fz H H2:=e1.fz.trans (aB.fz e2);have aR:=(bF.same e1).lk (Lk.draw e2 aB) λxs g=>e2 _ _ (aB.lst g) g;symm;refine Br ∅ λrl H3 aE e3 h3=>?_;have b0:=(aR.more aE).same e3
 have b5:rl≠p:=λz=>by
  obtain⟨_,g,_⟩:=aR;rw[z,g] at aE
  cases aE
 have bH:l≠rl:=aC.nl aE;have aD:d≠rl:=aC.nd aE
 have hdp:d≠p:=λz=>by obtain⟨_,g,_⟩:=aR;exact aC.lst g z.symm
 have bA:=hI.hf_fz (b8.trans e3.fz);symm;refine⟨v,wd,ns,ps,rfl,bA,hH,by omega,hww,λle H4 b3 e4 aA=>?_⟩;have hel:(Op (decide (wd = "last")) (Ck ps) ns).length<=4:=A0M (A1K _ _) h4;generalize bG:Op (decide (wd = "last")) (Ck ps) ns=es at aA hel;have hes:∀ z∈es,z∈ns:=λz hz=>by rw[<- bG] at hz;exact(A0V.mp hz).1
 have hlep:le≠p:=λz=>by
  obtain⟨_,g,_⟩:=b0;rw[z,g] at b3
  cases b3
 have hler:le≠rl:=Ne.symm (ne_of_none h3 b3);have hled:le≠d:=(aC.same (e3.trans e4)).lst aA;have bD:=b0.same e4;have hF4:=aC.same (e3.trans e4);have fz4:Fz H H4:=(b8.trans e3.fz).trans e4.fz;have h4r:=e4 _ _ h3;clear aR b0 bF h1 h2 h3 bA bG hwd;refine Hq (SqL.of aA) ?_;refine Kp (Bc (xs:=es.map V.str)) (λi σ H5=>∃ x5 x6 js ms,σ=[some (.ref d),some (.ref p),some v,some (.str wd),some (.ref rl),x5,x6,none,none]/\H5 le=some (.lst (es.map V.str))/\Fz H H5/\Feed H5 d l/\RwsA K [rl,p] H5 p (ρs++ms)/\ms.length<=i*16/\H5 rl=some (.lst (js.map V.int))/\js.length=i/\∀ j∈js,-1<=j/\j<=1000) ⟨_,_,[],[],rfl,aA,fz4,hF4,by rw[List.append_nil];exact bD,by simp,h4r,rfl,λ_ h=>by cases h⟩ (λi σ' H' hP=>?_) (λi x σ' H5 hx hi hP=>?_) (fun σ' H5 hP=>?_)
 . obtain⟨_,_,_,_,_,h,_⟩:=hP;exact SqL.of h
 . obtain⟨x5,x6,js,ms,rfl,b4,aL,a4,aS,bI,aF,b2,aT⟩:=hP;rw[A06] at hx;obtain⟨z,hz,rfl⟩:=A0Z.mp hx;have hzm:=hes z (A05 hz);rw[A01] at hi;have bB:=hI.hf_fz aL;symm;refine Hx bB λnv hNv=>?_;refine P0 hNv (λy=>!decide (y=z)) PyData.str (λ_=>rfl) (by omega) (λi y H6 R R' hy e6 hR6 hR6'=>?_) (λl6 ys H6 hl6 e6 h6 hL6=>?_)
   . symm;refine M0 (λh=>?_) (λh=>?_)
     . symm;exact hR6 (by simpa using λz=>h (congrArg V.str z)) _ _ (.refl _) (by simp only[Is])
     exact hR6' (by simpa using V.str.inj h) _ (.refl _)
   have hys:=IsL.str_eq hL6;subst hys;symm;refine⟨v,l6,ns,ps,Gv ns z,rfl,bB.hf_fz e6.fz,hH,by omega,h6,hn.sublist A1P,λy hy=>(A0V.mp hy).1,λu qs H7 e7 bK bC hlq=>?_⟩;have hml1:=Tw hn hzm;have a3:=e6.trans e7;have a7:=aS.same a3;symm;refine⟨p,u,[rl,p],Gv ns z,qs,ρs++ms,rfl,by simp,λq hq=>?_,a7,bK,bC.half,by omega,by omega,by omega,?_,λi7 ms' H8 e8 bE hml8 _=>?_⟩
   . rcases A0G.mp hq with rfl|hq
     . rw[a3 _ _ aF];exact nofun
     obtain⟨_,g,_⟩:=a7;rw[A0Q.mp hq,g];exact nofun
   . have:tN (Gv ns z).length<=16:=ax1 (by omega);rw[A08];omega
   have htn:tN (Gv ns z).length<=16:=ax1 (by omega);have aY:=a4.same a3;have aP:Feed H8 d l:=aY.put e8 hdp hlp
   have b9:Fz H7 H8:=by obtain⟨_,g,_⟩:=a7;exact e8.fzL g
   symm;refine⟨d,l,p,u,[rl,p],Gv ns z,qs,_,rfl,aP,bE,bK.hf_fz b9,bC.half,by omega,by simp only[List.length_append];omega,by simp only[List.length_append];omega,λj H9 Y hF9 hj0 hj1=>?_⟩;have aX:H9 rl=some (.lst (js.map V.int)):=Y _ _ (Ne.symm aD) (e8 _ _ b5 (a3 _ _ aF));have hR9:=bE.lk (Lk.draw Y aP) λxs g=>Y _ _ (aP.lst g) g;symm;refine Uv aX (by rw[A01];omega) λaJ U a0=>?_;symm;refine⟨_,_,js++[j],ms++ms',rfl,U _ _ hler (Y _ _ hled (e8 _ _ hlep (a3 _ _ b4))),(((aL.trans a3.fz).trans b9).trans (aP.fz Y)).trans (U.fzL aX),hF9.put U aD bH,by rw[<- List.append_assoc];exact hR9.lk (Lk.but U aX (by simp)) λxs g=>U _ _ (Ne.symm b5) g,by rw[List.length_append];omega,by rw[a0,List.map_append];rfl,by rw[List.length_append,b2];rfl,λj' hj'=>?_⟩;rcases A0O.mp hj' with h|h
   . exact aT j' h
   rw[A0Q.mp h];exact⟨hj0,hj1⟩
 obtain⟨x5,x6,js,ms,rfl,b4,aL,a4,aS,bI,aF,b2,aT⟩:=hP;rw[A01] at bI b2;symm;refine⟨d,l,_,rfl,a4,by omega,by omega,λway H6 hy0 hy1 e6 aO=>?_⟩;have h6:=e6 _ _ (Ne.symm aD) aF;symm;refine⟨d,l,_,rfl,aO,by rw[A01];omega,by rw[A01];omega,λa1 H7 b1 ha1 e7 aY=>?_⟩;have h7:=e7 _ _ (Ne.symm aD) h6;have fz7:Fz H H7:=(aL.trans (a4.fz e6)).trans (aO.fz e7);have a7:=(aS.lk (Lk.draw e6 a4) λxs g=>e6 _ _ (a4.lst g) g).lk (Lk.draw e7 aO) λxs g=>e7 _ _ (aO.lst g) g;rw[A01] at ha1;walk_at "rq";have aQ:EdJ K d l p (ρs++ms) H 4 rl js H7:=⟨fz7,aY,a7,b5,bH,aD,h7,by omega,aT⟩;have hms:ms.length<=64:=by omega
 clear aS a7 aF h6 h7 aT b4 aA bD
 with_reducible refine N1 (fun σ' H'=>∃ q aG,σ'=[some (.ref d),some (.ref p),some v,some (.str wd),some (.ref q),x5,x6,some (.int way),some (.int a1)]/\EdJ K d l p (ρs++ms) H 8 q aG H') (λN Z=>?_) (fun σ1 H8 hM=>?_)
 . symm;refine Gw (λ_=>?_) (λ_=>?_)
   . symm;refine R6 (SqL.of aQ.lst) λq8 H8 hq8 e8 h8=>?_;rw[Gs b1,<- A3K] at h8;symm;refine R6 (SqL.of (e8 _ _ aQ.lst)) λq9 H9 hq9 Y h9=>?_;rw[Fw (by omega),<- List.map_drop] at h9;have l8:=A58 a1.toNat js;have l9:(js.drop (a1+1).toNat).length<=js.length:=by rw[A1N];omega
     refine Ly (Y _ _ h8) h9 (Ak (by rw[A01,A01];omega)) λaV aJ bJ U a0=>?_;rw[<- A0R] at a0;symm;exact Z _ _ ⟨_,_,rfl,aQ.new ((e8.trans Y).free bJ) ((e8.trans Y).trans U) a0 (by rw[A08];omega) λj hj=>(A0O.mp hj).elim A1Y A36⟩
   symm;exact Z _ _ ⟨_,_,rfl,aQ.le ∅⟩
 obtain⟨q8,aH,rfl,a6⟩:=hM;walk_at "rq"
 with_reducible refine N1 (fun σ' H'=>∃ q aG,σ'=[some (.ref d),some (.ref p),some v,some (.str wd),some (.ref q),x5,x6,some (.int way),some (.int a1)]/\EdJ K d l p (ρs++ms) H 20 q aG H') (λN Z=>?_) (fun σ1 H9 hM=>?_)
 . symm;refine Gw (λ_=>?_) (λ_=>?_)
   . symm;have hl8:=a6.len;refine R6 (SqL.of a6.lst) λq9 H9 hq9 Y h9=>?_;rw[Gs b1,<- A3K] at h9;symm;refine R6 (SqL.of (Y _ _ a6.lst)) λaV aJ bJ U a0=>?_;rw[Gs ∅,<- A3K] at a0;have l9:=A58 a1.toNat aH;have l10:=List.length_take_le' (1:Int).toNat aH;have l11:(aH.drop a1.toNat).length<=aH.length:=by rw[A1N];omega
     refine Ly (U _ _ h9) a0 (Ak (by rw[A01,A01];omega)) λq11 b6 hq11 a2 a9=>?_;rw[<- A0R] at a9;symm;have aW:=(Y.trans U).trans a2;refine R6 (SqL.of (aW _ _ a6.lst)) λq12 H12 hq12 a8 aM=>?_;rw[Fw b1,<- List.map_drop] at aM;refine Ly (a8 _ _ a9) aM (Ak (by rw[A01,A01,A08];omega)) λq13 b7 hq13 aK aN=>?_;rw[<- A0R] at aN;symm;exact Z _ _ ⟨_,_,rfl,a6.new ((aW.trans a8).free hq13) ((aW.trans a8).trans aK) aN (by rw[A08,A08];have:(aH.take (1:Int).toNat).length<=1:=A58 _ _;omega) λj hj=>(A0O.mp hj).elim (λhj=>(A0O.mp hj).elim A1Y A1Y) A36⟩
   symm;exact Z _ _ ⟨_,_,rfl,a6.le ∅⟩
 obtain⟨q9,js9,rfl,O⟩:=hM;walk_at "rq"
 with_reducible refine N1 (fun σ' H'=>∃ q aG,σ'=[some (.ref d),some (.ref p),some v,some (.str wd),some (.ref q),x5,x6,some (.int way),some (.int a1)]/\EdJ K d l p (ρs++ms) H 20 q aG H') (λN Z=>?_) (fun σ1 aJ hM=>?_)
 . symm;refine Gw (λ_=>?_) (λ_=>?_)
   . symm;refine i_tyLm O.lst ?_;refine Zt O.lst λaJ U a0=>?_;rw[<- List.map_reverse] at a0;exact Z _ _ ⟨_,js9.reverse,rfl,⟨O.fz.trans (U.fzL O.lst),O.feed.put U O.dq O.lq,O.rows.lk (Lk.but U O.lst (by simp)) λxs g=>U _ _ (Ne.symm O.qp) g,O.qp,O.lq,O.dq,a0,by rw[List.length_reverse];exact O.len,λj hj=>O.jb j (List.mem_reverse.mp hj)⟩⟩
   symm;exact Z _ _ ⟨_,_,rfl,O⟩
 obtain⟨aV,aU,rfl,aZ⟩:=hM;walk_at "rq"
 with_reducible refine N1 (fun σ' H'=>∃ aI,σ'=[some (.ref d),some (.ref p),some v,some (.str aI),some (.ref aV),x5,x6,some (.int way),some (.int a1)]/\(aI = "last" \/ aI = "first")/\EdJ K d l p (ρs++ms) H 20 aV aU H') (λN Z=>?_) (fun σ1 b6 hM=>?_)
 . symm;refine Gw (λ_=>?_) (λ_=>?_)
   . symm;refine Br (Ak (by simp)) λl11 b6 hl11 a2 a9=>?_;symm;rcases hww with rfl|rfl
     . rw[A0H ∅];refine Fv a9 (by rfl) ?_;symm;exact Z _ _ ⟨_,rfl,.inr rfl,aZ.same a2⟩
     rw[A0D rfl];refine Fv a9 (by rfl) ?_;symm;exact Z _ _ ⟨_,rfl,.inl rfl,aZ.same a2⟩
   symm;exact Z _ _ ⟨_,rfl,hww,aZ⟩
 obtain⟨aI,rfl,hww',a5⟩:=hM;have hjl11:=a5.len;symm;refine Fb (SqL.of a5.lst) λt12 H12 ht12 a8 aM=>?_;symm;refine B3 (Ak (by simp)) λt13 b7 ht13 aK aN=>?_;have a2:=a8.trans aK;exact k (.ref t13) _ aU ms b7 (a5.fz.trans a2.fz) (a5.feed.same a2) (a5.rows.less.same a2) hms (Is.of_tup (SqT.of aN) (.cons (by simp only[Is]) (.one (Is.of_tup (SqT.of (aK _ _ aM)) (Jz aU))))) (.ends aI hww' aU (by omega)) hjl11 a5.jb
def spLaw (K:W.Frag):Sp:=λvs H Q _=>∃(a:Addr) (ns:List Int),vs=[.ref a]/\SqL K H a (ns.map V.int)/\ns.length<=63/\∀ H',Q (.bl true) H'
def aC9:Half [] []:=⟨⟨List.nodup_nil,λ_ h=>by cases h⟩,by simp,by simp,[],.refl _,λ_ h=>by cases h⟩
theorem au0 (F:Fu K "law" P7 f fd)(T:Dy mg)(Jp:Fnd P w K mg base 1 "_law_feed" ["_law_script"] (Hm K))(Ah:Fnd P w K mg base 1 "_law_draw" ["_law_feed_here","_law_many"] (Bv K))(K3:Fnd P w K mg base 4 "_law_half" ["_law_feed_here","_law_many"] (Ii K))(Ed:Fnd P w K mg base 10 "_law_judged_so" ["_law_half_here","_law_paper"] (Dt K))(D5:Fnd P w K mg base 15 "_law_row" ["_law_rows","_law_half_here"] (Gg K))(Ej:Fnd P w K mg base 3 "_law_with_last" ["_law_feed_here","_law_rows","_law_half_here","_law_rule"] (Dl K))(Ho:Fnd P w K mg base 16 "_law_ended" ["_law_feed_here","_law_rows","_law_half_here"] (G8 K)):FnOk P w K mg base CX0 17 f fd ["_law_script"] (spLaw K):=by
 refine F.ok Nt (λvs H Q E h=>?_) (λcdv A outer s H vs Q E O h=>?_)
 . obtain⟨a,ns,rfl,_⟩:=h;rfl
 obtain⟨a,cs,rfl,hS,h63,k⟩:=h;have hu:=Bh O;have hq:=Bg O
 with_reducible refine⟨_,(A2 (Ai (i:=1) Nt.nd ⋯ (by eq_refl) (An Jp (O.mono ∅) ⋯ (A0 (pv 0) A1)))
  (A2 (E4 A18 ⋯ (Cu ⋯ T.b_range (A0 A3 A1)) (Ae (i:=2) Nt.nd ⋯ (by eq_refl))
  (A2 (Ai (i:=3) Nt.nd ⋯ (by eq_refl) (An K3 (O.mono ∅) ⋯ (A0 (pv 1) (A0 (An Ah (O.mono ∅) ⋯ (A0 (pv 1) (A0 A3 A1))) A1))))
  (A2 (Ai (i:=4) Nt.nd ⋯ (by eq_refl) (Bm A1))
  (A2 (Do (An D5 (O.mono ∅) ⋯ (A0 (pv 4) (A0 (B0 (A0 (B0 A1) (A0 (B0 A1) A1))) A1))))
  (A5 (E4 A18 ⋯ (Cu ⋯ T.b_range (A0 A3 A1)) (Ae (i:=5) Nt.nd ⋯ (by eq_refl))
  (A2 (Ai (i:=6) Nt.nd ⋯ (by eq_refl) (An Ej (O.mono ∅) ⋯ (A0 (pv 1) (A0 (pv 4) (A0 (pv 3) (A0 (An Ho (O.mono ∅) ⋯ (A0 (pv 1) (A0 (pv 4) (A0 (pv 3) A1)))) A1))))))
  (A5 (Av (Bj (B8 (An Ed (O.mono ∅) ⋯ (A0 (pv 3) (A0 (pv 6) A1))))) (A5 (Aa E6)) Ad)))))))))
  (A5 (Aa E6)))),?_⟩
 symm;refine⟨a,cs,rfl,hS,h63,λd l H1 hd hl e1 hF=>?_⟩;symm;refine Iy (by omega) ?_;refine Kp Cb (λi σ H2=>∃ x2 x3 x4 Y Z,σ=[some (.ref a),some (.ref d),x2,x3,x4,Y,Z]/\Feed H2 d l) ⟨_,_,_,_,_,rfl,hF⟩ (λ_ _ _ _=>trivial) (λi x σ H2 hx hi U=>?_) (fun σ H2 U=>?_)
 . obtain⟨x2,x3,x4,Y,Z,rfl,aC⟩:=U;obtain⟨rfl,hi2⟩:=Fs hx;clear hF e1;symm;refine⟨d,l,_,rfl,aC,by omega,by omega,λn H3 hn0 hn1 e3 hF3=>?_⟩;symm;refine⟨d,l,n,rfl,hF3,hn0,by omega,λv ns ps H4 e4 a6 hI4 hH hnl hpl=>?_⟩;have h4:ns.length<=4:=by omega
   have aB:ps.length<=21:=by have:n.toNat*n.toNat<=4*4:=A48 (by omega) (by omega);omega
   symm;refine Br ∅ λp H5 hp e5 h5=>?_;have aH:l≠p:=a6.nl hp;have hdp:d≠p:=a6.nd hp;symm;refine B3 ∅ λt6 H6 ht6 e6 h6=>?_;symm;refine B3 ∅ λt7 H7 ht7 e7 h7=>?_;symm;refine B3 (Ak (by simp)) λt8 H8 ht8 e8 h8=>?_;have a1:=(e6.trans e7).trans e8;have a9:=e5.trans a1;symm;refine⟨p,_,[p],[],[],[],rfl,by simp,λq hq=>?_,⟨[],a1 _ _ h5,rfl,λi ρ y h=>by cases h⟩,a46 (SqT.of h8) (Z7 (SqT.of ((e7.trans e8) _ _ h6))) (Is.of_tup (ds:=[]) (SqT.of (e8 _ _ h7)) .nil),aC9,by simp,by simp,by simp,by decide,λi9 ms H9 e9 aG aI aJ=>?_⟩
   . rw[A0Q.mp hq,a1 _ _ h5];exact nofun
   rw[A30] at aG aJ
   have hm1:1<=ms.length:=by obtain⟨ρ,h,_⟩:=aJ;have:=(A03.mp h).1;omega
   have aI:ms.length<=1:=aI;have hF9:Feed H9 d l:=(a6.same a9).put e9 hdp aH;have hI9:=hI4.hf_fz (a9.fz.trans (e9.fzL (a1 _ _ h5)));symm;refine Iy (by omega) ?_;refine Kp Cb (λj σ a0=>∃ Y Z ρs,σ=[some (.ref a),some (.ref d),some (.int (0+(i:Int))),some v,some (.ref p),Y,Z]/\Feed a0 d l/\RwsA K [p] a0 p ρs/\Is K a0 (hfD ns ps) v/\1<=ρs.length/\ρs.length<=1+64*j) ⟨_,_,ms,rfl,hF9,aG,hI9,hm1,by omega⟩ (λ_ _ _ _=>trivial) (λj x σ a0 hx hj U=>?_) (fun σ a0 U=>?_)
   . obtain⟨Y,Z,ρs,rfl,a5,hR10,a7,hr1,hr2⟩:=U;obtain⟨rfl,hj2⟩:=Fs hx;have hj6:j<6:=hj2;symm;refine⟨d,l,p,v,ns,ps,ρs,rfl,a5,aH,hR10,a7,hH,h4,hr1,by omega,λu D js a8 H11 aA a2 aE hml11 hIu hRu hj20 hjb=>?_⟩;symm;refine⟨d,l,p,v,u,[p],ns,ps,D,js,ρs++a8,rfl,a2,aE,a7.hf_fz aA,hH,h4,aB,hIu,hRu,hj20,hjb,by rw[A08];omega,λpv ρ H12 a3 hF12 hρ hIp=>?_⟩;have aF:=aE.lk (Lk.draw a3 a2) λxs g=>a3 _ _ (a2.lst g) g;have aD:=a7.hf_fz (aA.trans (a2.fz a3));symm;refine⟨v,pv,ns,ps,ρs++a8++[ρ],rfl,aD,hH,h4,aB,hIp,fun ρ' hρ'=>?_,by simp only[List.length_append];omega,by simp only[List.length_append,List.length_singleton];omega,λH13 a4=>?_⟩
     . rcases A0O.mp hρ' with h|h
       . obtain⟨i',hi',rfl⟩:=A1I h;exact(aF.good (A00 hi')).h
       rw[A0Q.mp h];exact hρ
     symm;exact⟨_,_,ρs++a8,rfl,hF12.same a4,aF.same a4,aD.hf_fz a4.fz,by rw[A08];omega,by rw[A08];omega⟩
   obtain⟨Y,Z,ρs,rfl,a5,_⟩:=U;exact⟨_,_,_,_,_,rfl,a5⟩
 obtain⟨x2,x3,x4,Y,Z,rfl,aC⟩:=U;symm;exact k H2
end
theorem all_mk {l:W.OpenLaw}{w:World}{K:W.Frag}{h:Heap}{mg:Str->Option Value}{fa a2 Z a5 a6 a4:Addr}(X:K.In h)(G:h.Ns mainGlobals mg)(b1:mg "law" = some (.ref fa))
 {aI a9 aJ aM:Option Addr} {aQ aR:Array (Option Value)} {aN aD a7 aA a1 aC aO aT aK aP aB aS:Value}
 (cg:W.specialIn K (.builtin "object.__class__") "__get__" = some (some (.builtin "getset_descriptor.__get__"))) (ct:W.takesIn K (.builtin "object.__class__")=some true)
 (aE:W.nsIn K mainGlobals "HalfError" = some (some (.ref C_HalfError)))
 (aF:W.nsIn K mainGlobals "NoPaper" = some (some (.ref C_NoPaper)))
 (Y:xF K C_HalfError C_HalfError true true []=true)
 (dY:Xk K "NoHalf" a5 C_HalfError)
 (dZ:Xk K "NoName" C_NoName C_HalfError)
 (U:xF K C_NoPaper C_HalfError false false ["word","row"]=true)
 (e0:Xk K "NoPlan" a6 C_HalfError)
 (dX:Xk K "NoBound" a4 C_HalfError)
 (d7:([C_HalfError,a4,a5,C_NoName,C_NoPaper,a6]:List Addr).Nodup)
 {b0:Nat} {cG cH cI cJ cK cL cM cN:Tok} (aW:W.nsIn K mainGlobals "RULES" = some (some (.ref D_RULES))) (d8:(D_RULES==sysModules)=false) (cQ:K.lookup D_RULES=some ⟨.type "dict",none,.dict #[⟨PyData.keyHash w.params "row",.str "row" cG,.ref RULES_t0⟩,⟨PyData.keyHash w.params "ask",.str "ask" cH,.ref RULES_t1⟩,⟨PyData.keyHash w.params "last",.str "last" cI,.ref RULES_t2⟩,⟨PyData.keyHash w.params "first",.str "first" cJ,.ref RULES_t3⟩,⟨PyData.keyHash w.params "above",.str "above" cK,.ref RULES_t4⟩,⟨PyData.keyHash w.params "beside",.str "beside" cL,.ref RULES_t5⟩,⟨PyData.keyHash w.params "turned",.str "turned" cM,.ref RULES_t6⟩,⟨PyData.keyHash w.params "called",.str "called" cN,.ref RULES_t7⟩] b0,#[]⟩)
 {cZ:Nat} {d9:Array (Option Value)} (cR:K.lookup RULES_t0=some ⟨.type "tuple",none,.seq #[] cZ,d9⟩)
 {d0:Nat} {dA:Array (Option Value)} {dH dO dS dT:Tok} (cS:K.lookup RULES_t1=some ⟨.type "tuple",none,.seq #[.str "name" dH,.str "name" dO,.str "number" dS,.str "number" dT] d0,dA⟩)
 {d1:Nat} {dB:Array (Option Value)} {dI:Tok} (cT:K.lookup RULES_t2=some ⟨.type "tuple",none,.seq #[.str "numbers" dI] d1,dB⟩)
 {d2:Nat} {dC:Array (Option Value)} {dJ:Tok} (cU:K.lookup RULES_t3=some ⟨.type "tuple",none,.seq #[.str "numbers" dJ] d2,dC⟩)
 {d3:Nat} {dD:Array (Option Value)} {dK dP:Tok} (cV:K.lookup RULES_t4=some ⟨.type "tuple",none,.seq #[.str "number" dK,.str "number" dP] d3,dD⟩)
 {d4:Nat} {dE:Array (Option Value)} {dL dQ:Tok} (cW:K.lookup RULES_t5=some ⟨.type "tuple",none,.seq #[.str "number" dL,.str "number" dQ] d4,dE⟩)
 {d5:Nat} {dF:Array (Option Value)} {dM:Tok} (cX:K.lookup RULES_t6=some ⟨.type "tuple",none,.seq #[.str "number" dM] d5,dF⟩)
 {d6:Nat} {dG:Array (Option Value)} {dN dR:Tok} (cY:K.lookup RULES_t7=some ⟨.type "tuple",none,.seq #[.str "names" dN,.str "number" dR] d6,dG⟩)
 (j0:Fj K "behind_each" G9)
 (j1:Fj K "alike" Sy)
 (j2:Fj K "is_whole" Lo)
 (j3:Fj K "is_tuple_of" Gk)
 (j4:Fj K "is_name" N2)
 (j5:Fj K "are_unlike_names" Df)
 (j6:Fj K "are_tale_names" Ef)
 (j7:Fj K "is_saying" Jr)
 (j8:Fj K "is_tale_frame" Ez)
 (j9:Fj K "first_wrong_saying" Cq)
 (b3:Fj K "is_tale" N4)
 (b4:Fj K "reach_of" Kx)
 (b5:Fj K "is_row_of" Ju)
 (b6:Fj K "reach_without" F2)
 (b7:Fj K "reach_turned" Nw)
 (b8:Fj K "reach_called" O3)
 (b9:Fj K "fits_kind" K2)
 (bA:Fj K "is_rule" Nq)
 (bB:Fj K "refs_of" Ms)
 (bC:Fj K "ends_of" Ng)
 (bD:Fj K "fits_ask" Wg)
 (bE:Fj K "fits_ends" J7)
 (bF:Fj K "fits_joined" Q3)
 (bG:Fj K "fits_rule" K0)
 (bH:Fj K "choices" Zy)
 (bI:Fj K "number_due" Hz)
 (bJ:Fj K "is_row_frame" Ff)
 (bK:Fj K "word_due" L5)
 (bL:Fj K "rows_fault" Ih)
 (bM:Fj K "lets_count" I0)
 (bN:Fj K "_law_feed" Jh)
 (bO:Fj K "_law_draw" Jg)
 (bP:Fj K "_law_shuffled" Ex)
 (bQ:Fj K "_law_names" Hk)
 (bR:Fj K "_law_half" Jt)
 (bS:Fj K "_law_over" Jb)
 (bT:Fj K "_law_key" Lr)
 (bU:Fj K "_law_only" Jc)
 (bV:Fj K "_law_choose" Pj)
 (bW:Fj K "_law_is_whole" F5)
 (bX:Fj K "_law_are_wholes" Dm)
 (bY:Fj K "_law_are_names" Ea)
 (bZ:Fj K "_law_is_half" Fg)
 (c0:Fj K "_law_is_rule" Fl)
 (c1:Fj K "_law_refs" Jk)
 (c2:Fj K "_law_ends" K7)
 (c3:Fj K "_law_made" T4)
 (c4:Fj K "_law_halves_so" Eh)
 (c5:Fj K "_law_number_of" Ee)
 (c6:Fj K "_law_word" Je)
 (c7:Fj K "_law_fault" Hu)
 (c8:Fj K "_law_told" Jj)
 (c9:Fj K "_law_judged_so" Ek)
 (cA:Fj K "_law_row" Il)
 (cB:Fj K "_law_ref" Ln)
 (cC:Fj K "_law_with_last" Eg)
 (cD:Fj K "_law_ended" Hl)
 (aU:W.nsIn K mainGlobals "law" = some (some (.ref a2))) (cO:K.lookup a2=some ⟨aN,aI,.func (W.fnOf "law" "law" (Cr P7) (Cd P7) (A8 P7) .none aD a7 aA a9 a1 aC),aQ⟩) (aY:W.codeIn K a1 "law" = true) (cE:W.keepIn K (.ref a2)=true)
 (aV:W.findIn K (.ref C_NoPaper) "__init__" = some (some (.ref Z))) (b2:W.isFn K (.ref Z)=true) (cP:K.lookup Z=some ⟨aO,aJ,.func (W.fnOf "__init__" "NoPaper.__init__" (Cr Ca) (Cd Ca) (A8 Ca) .none aT aK aP aM aB aS),aR⟩) (aZ:W.codeIn K aB "NoPaper.__init__" = true) (cF:W.keepIn K (.ref Z)=true)
 {t0:Tok} (g0:W.nsIn K mainGlobals "MOST_NAMES" = some (some (.int 10 t0)))
 {t1:Tok} (g1:W.nsIn K mainGlobals "MOST_ROWS" = some (some (.int 1200 t1)))
 {t2:Tok} (g2:W.nsIn K mainGlobals "MOST_SAYINGS" = some (some (.int 60 t2)))
 {t3:Tok} (g3:W.nsIn K mainGlobals "MOST_SIGNS" = some (some (.int 8 t3)))
 {t4:Tok} (g4:W.nsIn K mainGlobals "SMALL_LETTERS" = some (some (.str "abcdefghijklmnopqrstuvwxyz" t4)))
 (O:zIn K ["ValueError","all","any","bool","dict","enumerate","int","isinstance","len","list","max","range","repr","set","sorted","str","sum","tuple","zip"]=true)
 : ∃ fd:FuncData,(∀(s:Shared) (v:Value),BindsTo s fd ⟨[v],[]⟩ [("_law_script",v)])/\∀ base:Heap,K.In base->base.Ns mainGlobals mg->FnOk l.prog w K mg base CX0 17 fa fd ["_law_script"] (spLaw K):=by
 have e:=b1.symm.trans (A2T X G aU)
 cases e;have T:Dy mg:=⟨⟨_,W.mg_of X G g0,⟨_,rfl⟩⟩,⟨_,W.mg_of X G g1,⟨_,rfl⟩⟩,⟨_,W.mg_of X G g2,⟨_,rfl⟩⟩,⟨_,W.mg_of X G g3,⟨_,rfl⟩⟩,⟨_,W.mg_of X G g4,⟨_,rfl⟩⟩,Q0 O X G (by simp),Q0 O X G (by simp),Q0 O X G (by simp),Q0 O X G (by simp),Q0 O X G (by simp),Q0 O X G (by simp),Q0 O X G (by simp),Q0 O X G (by simp),Q0 O X G (by simp),Q0 O X G (by simp),Q0 O X G (by simp),Q0 O X G (by simp),Q0 O X G (by simp),Q0 O X G (by simp),Q0 O X G (by simp),Q0 O X G (by simp),Q0 O X G (by simp),Q0 O X G (by simp),Q0 O X G (by simp)⟩;have aL:=Yp (st:=P7) cO aY cE;have a8:=Yp (st:=Ca) cP aZ cF;have aX:Binds K _ ["self","word","row"] []:=Vi a8 λ_ _ _ _ _ _ _ _ _=>rfl;have aG:Nc l.prog w K mg D_RULES RULES_t0 RULES_t1 RULES_t2 RULES_t3 RULES_t4 RULES_t5 RULES_t6 RULES_t7:=⟨A2T X G aW,KD.of (vs:=[(Sum.inr "row",.ref RULES_t0),(Sum.inr "ask",.ref RULES_t1),(Sum.inr "last",.ref RULES_t2),(Sum.inr "first",.ref RULES_t3),(Sum.inr "above",.ref RULES_t4),(Sum.inr "beside",.ref RULES_t5),(Sum.inr "turned",.ref RULES_t6),(Sum.inr "called",.ref RULES_t7)]) d8 cQ ⟨rfl,rfl,rfl⟩ rfl (.cons (Ha (k:=Sum.inr "row") ⟨_,rfl⟩) rfl (.cons (Ha (k:=Sum.inr "ask") ⟨_,rfl⟩) rfl (.cons (Ha (k:=Sum.inr "last") ⟨_,rfl⟩) rfl (.cons (Ha (k:=Sum.inr "first") ⟨_,rfl⟩) rfl (.cons (Ha (k:=Sum.inr "above") ⟨_,rfl⟩) rfl (.cons (Ha (k:=Sum.inr "beside") ⟨_,rfl⟩) rfl (.cons (Ha (k:=Sum.inr "turned") ⟨_,rfl⟩) rfl (.cons (Ha (k:=Sum.inr "called") ⟨_,rfl⟩) rfl .nil)))))))) (λi e q h1 h2=>by rcases i with _ | _ | _ | _ | _ | _ | _ | _ | i<;>first | (cases h1;cases h2;rfl) | cases h1) (by show([Sum.inr "row",Sum.inr "ask",Sum.inr "last",Sum.inr "first",Sum.inr "above",Sum.inr "beside",Sum.inr "turned",Sum.inr "called"]:List Key).Nodup;decide +kernel) (.cons ⟨rfl,rfl⟩ (.cons ⟨rfl,rfl⟩ (.cons ⟨rfl,rfl⟩ (.cons ⟨rfl,rfl⟩ (.cons ⟨rfl,rfl⟩ (.cons ⟨rfl,rfl⟩ (.cons ⟨rfl,rfl⟩ (.cons ⟨rfl,rfl⟩ .nil)))))))),λH=>.inr ⟨_,_,_,cR,rfl,rfl,by rw[A0T];exact A1T rfl,.nil,rfl⟩,λH=>.inr ⟨_,_,_,cS,rfl,rfl,by rw[A0T];exact A1T rfl,(.cons ⟨_,rfl⟩ (.cons ⟨_,rfl⟩ (.cons ⟨_,rfl⟩ (.cons ⟨_,rfl⟩ .nil)))),rfl⟩,λH=>.inr ⟨_,_,_,cT,rfl,rfl,by rw[A0T];exact A1T rfl,(.cons ⟨_,rfl⟩ .nil),rfl⟩,λH=>.inr ⟨_,_,_,cU,rfl,rfl,by rw[A0T];exact A1T rfl,(.cons ⟨_,rfl⟩ .nil),rfl⟩,λH=>.inr ⟨_,_,_,cV,rfl,rfl,by rw[A0T];exact A1T rfl,(.cons ⟨_,rfl⟩ (.cons ⟨_,rfl⟩ .nil)),rfl⟩,λH=>.inr ⟨_,_,_,cW,rfl,rfl,by rw[A0T];exact A1T rfl,(.cons ⟨_,rfl⟩ (.cons ⟨_,rfl⟩ .nil)),rfl⟩,λH=>.inr ⟨_,_,_,cX,rfl,rfl,by rw[A0T];exact A1T rfl,(.cons ⟨_,rfl⟩ .nil),rfl⟩,λH=>.inr ⟨_,_,_,cY,rfl,rfl,by rw[A0T];exact A1T rfl,(.cons ⟨_,rfl⟩ (.cons ⟨_,rfl⟩ .nil)),rfl⟩⟩
 have a3:Et K mg C_HalfError C_HalfError:=⟨xF.xc Y cg ct,A2T X G aE,⟨xF.xc Y cg ct,xF.no Y,xF.kp Y,A2T X G aE⟩⟩;have dV:=dY.o X G cg ct;have aH:=dZ.o X G cg ct;have a0:Gb K mg C_NoPaper C_HalfError:=⟨xF.xc U cg ct,A2T X G aF,xF.mr U,xF.n U ∅,xF.n U ∅⟩;have dW:=e0.o X G cg ct;have dU:=dX.o X G cg ct;refine⟨W.fnOf "law" "law" (Cr P7) (Cd P7) (A8 P7) .none aD a7 aA a9 a1 aC,λs v=>.of_eq rfl,λbase _ _=>?_⟩;have C6:Fnd l.prog w K mg base 1 "behind_each" ["half"] (Dx K):=j0.fnd X G λF=>O5 F T;have Du:Fnd l.prog w K mg base 1 "is_whole" ["thing"] (Gp K):=j2.fnd X G λF=>Tn F T;have Gn:Fnd l.prog w K mg base 1 "is_tuple_of" ["thing","size"] (Fi K):=j3.fnd X G λF=>Nv F T;have N8:Fnd l.prog w K mg base 1 "is_name" ["thing"] (Lg K):=j4.fnd X G λF=>Wn F T;have K4:Fnd l.prog w K mg base 1 "is_saying" ["thing","names"] (Hf K):=j7.fnd X G λF=>Rv F T;have Ji:Fnd l.prog w K mg base 1 "is_row_of" ["reach"] (Ij K):=b5.fnd X G λF=>Rk F T;have F6:Fnd l.prog w K mg base 1 "reach_without" ["reach","name"] (Ei K):=b6.fnd X G λF=>M1 F T;have Fp:Fnd l.prog w K mg base 1 "reach_turned" ["reach"] (Hh K):=b7.fnd X G λ_=>FnOk.void λ_ _ _ _ h=>h;have Fh:Fnd l.prog w K mg base 1 "reach_called" ["reach","names"] (Ia K):=b8.fnd X G λ_=>FnOk.void λ_ _ _ _ h=>h;have Mg:Fnd l.prog w K mg base 1 "refs_of" ["rule"] (L6 K):=bB.fnd X G λF=>Vq F T aG;have Mp:Fnd l.prog w K mg base 1 "ends_of" ["word","reach"] (Kq K):=bC.fnd X G λF=>W6 F T;have L3:Fnd l.prog w K mg base 1 "fits_ask" ["reach","rule","spoken"] (Mn K):=bD.fnd X G λ_=>FnOk.void λ_ _ _ _ h=>h;have Gi:Fnd l.prog w K mg base 1 "fits_joined" ["reach","rule","spoken"] (J4 K):=bF.fnd X G λ_=>FnOk.void λ_ _ _ _ h=>h;have Nr:Fnd l.prog w K mg base 1 "choices" ["many","some"] (Oh K):=bH.fnd X G λ_=>FnOk.void λ_ _ _ _ h=>h;have Jp:Fnd l.prog w K mg base 1 "_law_feed" ["_law_script"] (Hm K):=bN.fnd X G λF=>Ro F T;have Ah:Fnd l.prog w K mg base 1 "_law_draw" ["_law_feed_here","_law_many"] (Bv K):=bO.fnd X G λF=>Sc F T;have C5:Fnd l.prog w K mg base 1 "_law_over" ["_law_half_here"] (E5 K):=bS.fnd X G λF=>Sm F T;have Ga:Fnd l.prog w K mg base 1 "_law_choose" ["_law_many","_law_some"] (Iz K):=bV.fnd X G λ_=>FnOk.void λ_ _ _ _ h=>h;have B4:Fnd l.prog w K mg base 1 "_law_is_whole" ["_law_thing"] (C7 K):=bW.fnd X G λF=>M3 F T;have Bu:Fnd l.prog w K mg base 1 "_law_are_names" ["_law_thing"] (Co K):=bY.fnd X G λF=>L8 F T;have Bs:Fnd l.prog w K mg base 1 "_law_refs" ["_law_rule"] (Cy K):=c1.fnd X G λF=>Rz F T;have Jy:Fnd l.prog w K mg base 1 "_law_made" ["_law_rule","_law_halves"] (Lx K):=c3.fnd X G λ_=>FnOk.void λ_ _ _ _ h=>h;have Ct:Mkx l.prog w K mg base 1 C_NoPaper "NoPaper" ["self","word","row"] (spX C_NoPaper ["word","row"]):=⟨_,_,Na a8 T a3 a0,a0.xc,aV,b2,xF.kp U,A2T X G aF,aX⟩;have Tt:Fnd l.prog w K mg base 2 "alike" ["one","other"] (Q4 K):=j1.fnd X G λF=>a37 F T C6;have Bf:Fnd l.prog w K mg base 2 "are_unlike_names" ["thing"] (C3 K):=j5.fnd X G λF=>Jf F T N8;have Cs:Fnd l.prog w K mg base 2 "first_wrong_saying" ["tale"] (Ch K):=j9.fnd X G λF=>Ic F T K4;have J8:Fnd l.prog w K mg base 2 "fits_ends" ["reach","rule","spoken"] (Hd K):=bE.fnd X G λF=>Rb F T F6 Mp;have Hw:Fnd l.prog w K mg base 2 "number_due" ["reach","rule","spoken","numbers"] (Gr K):=bI.fnd X G λF=>Q5 F T Nr;have Fn:Fnd l.prog w K mg base 2 "is_row_frame" ["thing"] (F1 K):=bJ.fnd X G λF=>Nb F T Du Gn;have B5:Fnd l.prog w K mg base 2 "_law_shuffled" ["_law_feed_here","_law_some"] (C9 K):=bP.fnd X G λF=>M9 F T Ah;have Ar:Fnd l.prog w K mg base 2 "_law_key" ["_law_half_here"] (Cj K):=bT.fnd X G λF=>Tz F T C5;have Bp:Fnd l.prog w K mg base 2 "_law_only" ["_law_half_here","_law_left"] (D8 K):=bU.fnd X G λF=>Rs F T C5;have Bz:Fnd l.prog w K mg base 2 "_law_are_wholes" ["_law_thing"] (Dh K):=bX.fnd X G λF=>K8 F T B4;have Fe:Fnd l.prog w K mg base 2 "_law_is_half" ["_law_thing"] (Ey K):=bZ.fnd X G λF=>N9 F T C5 Bu;have Aw:Fnd l.prog w K mg base 2 "_law_number_of" ["_law_half_here","_law_rule","_law_rows"] (Bo K):=c5.fnd X G λF=>Ku F T Ga;have En:Fnd l.prog w K mg base 3 "are_tale_names" ["thing"] (Ds K):=j6.fnd X G λF=>Li F T Bf;have K1:Fnd l.prog w K mg base 3 "fits_kind" ["kind","thing","reach"] (Hr K):=b9.fnd X G λF=>Sg F T Du Bf;have Js:Fnd l.prog w K mg base 3 "fits_rule" ["reach","rule","spoken"] (Ik K):=bG.fnd X G λF=>R4 F T Ji Fp Fh L3 J8 Gi;have Ie:Fnd l.prog w K mg base 3 "_law_names" ["_law_feed_here"] (Gf K):=bQ.fnd X G λF=>Ow F T Ah B5;have Fm:Fnd l.prog w K mg base 3 "_law_is_rule" ["_law_names_here","_law_rule"] (F0 K):=c0.fnd X G λF=>Mv F T B4 Bz Bu;have Bq:Fnd l.prog w K mg base 3 "_law_ends" ["_law_half_here","_law_word_here"] (Db K):=c2.fnd X G λF=>S7 F T Ar;have L9:Fnd l.prog w K mg base 3 "_law_ref" ["_law_feed_here","_law_rows","_law_half_here"] (Jd K):=cB.fnd X G λF=>T7 F T Ah Ar;have Ej:Fnd l.prog w K mg base 3 "_law_with_last" ["_law_feed_here","_law_rows","_law_half_here","_law_rule"] (Dl K):=cC.fnd X G λF=>Kt F T Ah B5 Bs Aw;have F3:Fnd l.prog w K mg base 4 "is_tale_frame" ["thing"] (Ec K):=j8.fnd X G λF=>M7 F T En;have Mq:Fnd l.prog w K mg base 4 "is_rule" ["thing","reach"] (Lm K):=bA.fnd X G λF=>Wk F T aG K1;have K3:Fnd l.prog w K mg base 4 "_law_half" ["_law_feed_here","_law_many"] (Ii K):=bR.fnd X G λF=>Qy F T Ah B5 Ie;have El:Fnd l.prog w K mg base 4 "_law_halves_so" ["_law_half_here","_law_rule","_law_halves"] (Dw K):=c4.fnd X G λF=>L1 F T Ar Bp Bq Jy;have Mh:Fnd l.prog w K mg base 5 "is_tale" ["thing"] (Lj K):=b3.fnd X G λF=>W3 F T F3 Cs;have La:Fnd l.prog w K mg base 5 "word_due" ["rows","row","reach","reaches"] (Jn K):=bK.fnd X G λF=>Sz F T Mq Mg Js Hw;have Jv:Fnd l.prog w K mg base 5 "_law_word" ["_law_paper","_law_at"] (Hi K):=c6.fnd X G λF=>Qo F T B4 Fe Fm Bs El Aw;have Kz:Fnd l.prog w K mg base 6 "reach_of" ["thing"] (K5 K):=b4.fnd X G λF=>Tb F T C6 Mh;have Hn:Fnd l.prog w K mg base 6 "_law_fault" ["_law_paper"] (Gj K):=c7.fnd X G λF=>Pl F T Jv;have D6:Fnd l.prog w K mg base 7 "rows_fault" ["rows"] (Er K):=bL.fnd X G λF=>Pr F T Kz Fn La;have Hs:ap3 l.prog w K mg base 8 "lets_count" ["half","paper"] (Fo C_NoPaper K):=bM.fnd1 X G λF=>O2 F T a3 aH a0 Tt D6 Ct;have Jl:Fnd l.prog w K mg base 9 "_law_told" ["_law_half_here","_law_paper"] (Hc K):=c8.fnd X G λF=>Rx F T a3 dV aH a0 dW dU d7 Hs;have Ed:Fnd l.prog w K mg base 10 "_law_judged_so" ["_law_half_here","_law_paper"] (Dt K):=c9.fnd X G λF=>L7 F T D6 Ar Hn Jl;have D5:Fnd l.prog w K mg base 15 "_law_row" ["_law_rows","_law_half_here"] (Gg K):=cA.fndR X G λF m k b=>Th F T Ar Bp Bs Bq Aw m k b;have Ho:Fnd l.prog w K mg base 16 "_law_ended" ["_law_feed_here","_law_rows","_law_half_here"] (G8 K):=cD.fnd X G λF=>Px F T Ah Bp Bq D5 L9;exact au0 aL T Jp Ah K3 Ed D5 Ej Ho
theorem walk {l:W.OpenLaw}{q:Program}{a1:List Str}{Y:(Str->Option Value)->Heap->Prop}{O:World->Heap->Prop}{d:DefRec}{K:Params->W.Frag}(hn:l.most=some 63)(a0:d.params.defaults=[])
 (hY:∀(w:World) (h:Heap),O w h->(K w.params).In h)
 (F:∀(w:World) (mg:Str->Option Value) (U:Addr) (h:Heap),(K w.params).In h->h.Ns mainGlobals mg->mg d.name=some (.ref U) ->
  ∃ fd:FuncData,(∀(s:Shared) (u:Value),BindsTo s fd ⟨[u],[]⟩ [("_law_script",u)])/\∀ base:Heap,(K w.params).In base->base.Ns mainGlobals mg->FnOk l.prog w (K w.params) mg base CX0 17 U fd ["_law_script"] (spLaw (K w.params))) :
 W.WalkO q a1 Y O l.row.toRowW d [] (λf vs=>PySem.call f vs):=
 L2.walk_of (n:=63) (k:=17) (x:="_law_script") (CX:=λ_=>CX0) (sp:=λw=>spLaw (K w.params)) hn ∅ a0 ⟨rfl,by decide,by decide,rfl⟩ hY F (λ_ _ a ns hl _ Z=>⟨a,ns,rfl,Z,hl,λ_=>rfl⟩) λ_ _ _ _ _ z=>z
end K46
theorem PySem.W.Fast.tw3132439667272128233:True:=trivial
theorem PySem.W.Fast.tw12960407981652457761:True:=trivial
theorem PySem.W.Fast.tw11658205340842407462:True:=trivial
theorem PySem.W.Fast.tw11126399908324810970:True:=trivial
theorem PySem.W.Fast.tw18369024640874073824:True:=trivial
theorem PySem.W.Fast.tw17623854450157624575:True:=trivial
theorem PySem.W.Fast.tw15267795015736830129:True:=trivial
theorem PySem.W.Fast.tw427217899723619718:True:=trivial
theorem PySem.W.Fast.tw8594202152390997554:True:=trivial
theorem PySem.W.Fast.tw3090255443657834780:True:=trivial
theorem PySem.W.Fast.tw15308612294696089101:True:=trivial
theorem PySem.W.Fast.tw4966557100987022800:True:=trivial
theorem PySem.W.Fast.tw13895246951957121744:True:=trivial
theorem PySem.W.Fast.tw5810013355541138743:True:=trivial
theorem PySem.W.Fast.tw1987502552424440908:True:=trivial
theorem PySem.W.Fast.tw11517698756045808981:True:=trivial
theorem PySem.W.Fast.tw2694418668376548382:True:=trivial
theorem PySem.W.Fast.tw5578913067656025015:True:=trivial
theorem PySem.W.Fast.tw17670759799520636416:True:=trivial
theorem PySem.W.Fast.tw10390457113700849729:True:=trivial
theorem PySem.W.Fast.tw17137882956992850966:True:=trivial
theorem PySem.W.Fast.tw13933073189390715777:True:=trivial
theorem PySem.W.Fast.tw8351408236071346425:True:=trivial
theorem PySem.W.Fast.tw14638543119610910398:True:=trivial
theorem PySem.W.Fast.tw5619687157959243941:True:=trivial
theorem PySem.W.Fast.tw10296722026809694105:True:=trivial
theorem PySem.W.Fast.tw15598690607957387148:True:=trivial
theorem PySem.W.Fast.tw16716270508332307127:True:=trivial
theorem PySem.W.Fast.tw8455432171683257259:True:=trivial
theorem PySem.W.Fast.tw6633897311673282034:True:=trivial
theorem PySem.W.Fast.tw11426844328863576826:True:=trivial
theorem PySem.W.Fast.tw3175415520823240521:True:=trivial
theorem PySem.W.Fast.tw17373458106553160332:True:=trivial
theorem PySem.W.Fast.tw11041685189365681660:True:=trivial
theorem PySem.W.Fast.tw3563886492211507833:True:=trivial
theorem PySem.W.Fast.tw9802528747678264080:True:=trivial
theorem PySem.W.Fast.tw11518841374220191277:True:=trivial
theorem PySem.W.Fast.tw7520234631138346486:True:=trivial
theorem PySem.W.Fast.tw4224659432713840116:True:=trivial
theorem PySem.W.Fast.tw2234882825280580966:True:=trivial
theorem PySem.W.Fast.tw17356184099110923053:True:=trivial
theorem PySem.W.Fast.tw4053588322694636685:True:=trivial
theorem PySem.W.Fast.tw2714997224294288487:True:=trivial
theorem PySem.W.Fast.tw16400777427911844052:True:=trivial
theorem PySem.W.Fast.tw17980550007999189924:True:=trivial
theorem PySem.W.Fast.tw3973026655592983229:True:=trivial
theorem PySem.W.Fast.tw10098667124773155995:True:=trivial
theorem PySem.W.Fast.tw14502213671066367339:True:=trivial
theorem PySem.W.Fast.tw7751583810941259744:True:=trivial
theorem PySem.W.Fast.tw4820906498662354840:True:=trivial
theorem PySem.W.Fast.tw6853304614546983818:True:=trivial
theorem PySem.W.Fast.tw14393956798798538303:True:=trivial
theorem PySem.W.Fast.tw8940990102526745177:True:=trivial
theorem PySem.W.Fast.tw15888651010780104958:True:=trivial
theorem PySem.W.Fast.tw5877299883158502977:True:=trivial
theorem PySem.W.Fast.tw13342985807824554320:True:=trivial
theorem PySem.W.Fast.tw10556282024743364627:True:=trivial
theorem PySem.W.Fast.tw16310677716819961895:True:=trivial
theorem PySem.W.Fast.tw11532628181593950418:True:=trivial
theorem PySem.W.Fast.tw4669704132088761760:True:=trivial
theorem PySem.W.Fast.tw14467909158309419107:True:=trivial
theorem PySem.W.Fast.tw12325392050480971612:True:=trivial
theorem PySem.W.Fast.tw13775743394257725652:True:=trivial
theorem PySem.W.Fast.tw1632899781179479998:True:=trivial
theorem PySem.W.Fast.tw1272681739343037169:True:=trivial
theorem PySem.W.Fast.tw4189860605302602269:True:=trivial
theorem PySem.W.Fast.tw4991360542317580984:True:=trivial
theorem PySem.W.Fast.tw18084613836809683406:True:=trivial
theorem PySem.W.Fast.tw13636489769561864467:True:=trivial
theorem PySem.W.Fast.tw11028306066486685563:True:=trivial
theorem PySem.W.Fast.tw16968634015199659087:True:=trivial
theorem PySem.W.Fast.tw813264222669102529:True:=trivial
theorem PySem.W.Fast.tw8510767712115777679:True:=trivial
theorem PySem.W.Fast.tw5999967111331554685:True:=trivial
theorem PySem.W.Fast.tw18033287125523718143:True:=trivial
theorem PySem.W.Fast.tw16383001687342441549:True:=trivial
theorem PySem.W.Fast.tw17407513658597794765:True:=trivial
theorem PySem.W.Fast.tw9641470112741646906:True:=trivial
theorem PySem.W.Fast.tw7251517697643451286:True:=trivial
theorem PySem.W.Fast.tw17816852673619230221:True:=trivial
theorem PySem.W.Fast.tw15229674612519773241:True:=trivial
theorem PySem.W.Fast.tw10834772391685789704:True:=trivial
theorem PySem.W.Fast.tw1935118141188478840:True:=trivial
theorem PySem.W.Fast.tw16789942264111822879:True:=trivial
theorem PySem.W.Fast.tw755003146071520770:True:=trivial
theorem PySem.W.Fast.tw12333983603938152589:True:=trivial
theorem PySem.W.Fast.tw12230028127572974621:True:=trivial
theorem PySem.W.Fast.tw13695056767062901852:True:=trivial
theorem PySem.W.Fast.tw232855788513233196:True:=trivial
theorem PySem.W.Fast.tw9026757335004972461:True:=trivial
theorem PySem.W.Fast.tw3479161518545875533:True:=trivial
theorem PySem.W.Fast.tw1558195265688521413:True:=trivial
theorem PySem.W.Fast.tw13555634577166268316:True:=trivial
theorem PySem.W.Fast.tw17247430566162351511:True:=trivial
theorem PySem.W.Fast.tw8871592563706873243:True:=trivial
theorem PySem.W.Fast.tw8510771800380615171:True:=trivial
theorem PySem.W.Fast.tw3579939997717641723:True:=trivial
theorem PySem.W.Fast.tw11586481992717996256:True:=trivial
theorem PySem.W.Fast.tw18266105275975312716:True:=trivial
theorem PySem.W.Fast.tw12796183722761384956:True:=trivial
theorem PySem.W.Fast.tw3224150837084059313:True:=trivial
theorem PySem.W.Fast.tw6623983989170019122:True:=trivial
theorem PySem.W.Fast.tw10956519640632200904:True:=trivial
theorem PySem.W.Fast.tw9152393374360564594:True:=trivial
theorem PySem.W.Fast.tw10473317532825629000:True:=trivial
theorem PySem.W.Fast.tw1712155890417443716:True:=trivial
theorem PySem.W.Fast.tw14711786980044777044:True:=trivial
theorem PySem.W.Fast.tw3668478915866828007:True:=trivial
theorem PySem.W.Fast.tw356222405343390108:True:=trivial
theorem PySem.W.Fast.tw8363389267993071332:True:=trivial
theorem PySem.W.Fast.tw7370086925421431612:True:=trivial
theorem PySem.W.Fast.tw11393347104242642339:True:=trivial
theorem PySem.W.Fast.tw6369090481939461421:True:=trivial
theorem PySem.W.Fast.tw17059707986508759173:True:=trivial
theorem PySem.W.Fast.tw4715952058867929268:True:=trivial
theorem PySem.W.Fast.tw6193382526112616137:True:=trivial
theorem PySem.W.Fast.tw14203866921255567272:True:=trivial
theorem PySem.W.Fast.tw11350417129255197203:True:=trivial
theorem PySem.W.Fast.tw17624349643902603084:True:=trivial
theorem PySem.W.Fast.tw11253864704437808980:True:=trivial
theorem PySem.W.Fast.tw5818184861047594098:True:=trivial
theorem PySem.W.Fast.tw3348509087493489326:True:=trivial
theorem PySem.W.Fast.tw15745265637377200848:True:=trivial
theorem PySem.W.Fast.tw2299876829448095522:True:=trivial
theorem PySem.W.Fast.tw3700077806036473187:True:=trivial
theorem PySem.W.Fast.tw7883548983464507664:True:=trivial
theorem PySem.W.Fast.tw1123194772774324258:True:=trivial
theorem PySem.W.Fast.tw17740101657460984376:True:=trivial
theorem PySem.W.Fast.tw1342184818650175917:True:=trivial
theorem PySem.W.Fast.tw14465338226779867604:True:=trivial
theorem PySem.W.Fast.tw6163369454038903817:True:=trivial
theorem PySem.W.Fast.tw8457205383016359605:True:=trivial
theorem PySem.W.Fast.tw10874438717083197771:True:=trivial
theorem PySem.W.Fast.tw3536105420981590229:True:=trivial
theorem PySem.W.Fast.tw9427742573608008178:True:=trivial
theorem PySem.W.Fast.tw5590598570486664168:True:=trivial
theorem PySem.W.Fast.tw6439781270545792088:True:=trivial
theorem PySem.W.Fast.tw836133932837386400:True:=trivial
theorem PySem.W.Fast.tw7646095130089360470:True:=trivial
theorem PySem.W.Fast.tw13285751861619971158:True:=trivial
theorem PySem.W.Fast.tw5129192120391996129:True:=trivial
theorem PySem.W.Fast.tw14163548694443798040:True:=trivial
theorem PySem.W.Fast.tw7206166549799445669:True:=trivial
theorem PySem.W.Fast.tw2291438097991371202:True:=trivial
theorem PySem.W.Fast.tw15709330718859942077:True:=trivial
theorem PySem.W.Fast.tw1273959468364816318:True:=trivial
theorem PySem.W.Fast.tw8547196103171307623:True:=trivial
theorem PySem.W.Fast.tw3959361709401890257:True:=trivial
theorem PySem.W.Fast.tw5289791968905701824:True:=trivial
theorem PySem.W.Fast.tw3088734814522357800:True:=trivial
theorem PySem.W.Fast.tw351824926300794166:True:=trivial
theorem PySem.W.Fast.tw11756155701024859002:True:=trivial
theorem PySem.W.Fast.tw8679603384926608938:True:=trivial
theorem PySem.W.Fast.tw1835560493547551034:True:=trivial
theorem PySem.W.Fast.tw6937327287130609215:True:=trivial
theorem PySem.W.Fast.tw13586759944070019436:True:=trivial
theorem PySem.W.Fast.tw18408303542915592469:True:=trivial
theorem PySem.W.Fast.tw17880431439168083659:True:=trivial
theorem PySem.W.Fast.tw17785309901269996697:True:=trivial
theorem PySem.W.Fast.tw2891707887318149368:True:=trivial
theorem PySem.W.Fast.tw17162945620790758591:True:=trivial
theorem PySem.W.Fast.tw10056508791524439686:True:=trivial
theorem PySem.W.Fast.tw6958818395634228364:True:=trivial
theorem PySem.W.Fast.tw838415318505438232:True:=trivial
theorem PySem.W.Fast.tw10980371686040730758:True:=trivial
open PySem PySem.W PyProof.Rows
set_option maxRecDepth 100000 in
set_option maxHeartbeats 0 in
theorem PySem.Challenge.cw_halforder_k46_rows_by_last_and_first_one_holds : PySem.Challenge.rw_halforder_k46_rows_by_last_and_first_one.Holds := by
 w_on;o_law;k_head;(case hw=>w_witness2)
 k_fill
 refine K46.walk (l:=PySem.Challenge.rw_halforder_k46_rows_by_last_and_first_one) rfl rfl (λw h Y=>PySem.W.kIn_of Y) ?F
 case F=>
  intro w mg fa h KX G hmg;refine' K46.all_mk KX G hmg ..
  any_goals first | k_is | exact L2.fk_mk (by k_is) (by k_is) (by k_is) (by k_is) | exact⟨by k_is,by kernel_rfl⟩ | fail
  any_goals rfl
  any_goals kernel_rfl
  any_goals decide
