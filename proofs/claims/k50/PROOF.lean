import PyProof.Rows.All
import Wide.All
import OpenK.AllK
import Wide.FinOn
import PyProof.EqAt
import PyProof.EqKinds
import PyProof.TupleCall
import Lean
import PyProof.DictWalks
import PyProof.DictIter
import PyProof.P3In
import KE.KEqSeq
import PyProof.ReprLen
import PyProof.ReprRoads
import PyProof.StrOps2
import KE.KRevSl
import PyProof.IsRules
import PyProof.StrLawsIdx
import PyProof.Rows.RegRepr
import PyProof.Rows.RegFStrParts
import PyProof.DictUpdate
import PyProof.AttrMissHeap
import PyProof.Walks
import KE.KDictOf
import PyProof.EnumIter
import PyProof.EnumFor
import PyProof.LayNew
import PyProof.EnumMake
import PyProof.Draws
import PyProof.WalksT
import PyProof.TupleIter
import PyProof.WalksMore
import KE.KRevIter
import KE.KEqDict
import PyProof.Rows.SetFrom
import PyProof.StrLawsTight
import PyProof.StrLawsChain
import PyProof.SumWalk
import PyProof.Rows.SortStr
import PyProof.Rows.SortWalk
import PyProof.TupleOfSeq
import KE.KDictSum
import KE.KSortTup
import PyProof.ListRange
import PyProof.ZipIter
import PyProof.Rows.ZipGen
import KE.KItemsList
import PyProof.ExcArgsOwn
import PyProof.InstStoreFacts
import PyProof.ExcBaseAll.ValueError
import PyProof.StationsW
import PyProof.RulesAs
import PyProof.RulesDel
import PyProof.NeKinds
import PyProof.ListMulAny
import KE.KMinBuiltin
import PyProof.Rows.CallKwBuiltin
import KE.KLam
import KE.KMinKey
import PyProof.WalkInts
import KE.KNestM
import PyProof.SeqI3
import KE.KSortKey
import PyProof.MaxThree
import PySem.Challenge.RW_halforder_k50_papers_of_many_rows
local macro_rules | `(tactic| eq_refl) => `(tactic| with_unfolding_all exact Or.inl rfl)
local macro_rules | `(tactic| ac_rfl) => `(tactic| with_unfolding_all exact fun _ _ => rfl)
local macro_rules | `(tactic| ac_nf) => `(tactic| with_unfolding_all rfl)
noncomputable section
local macro_rules | `(⋯) => `(by ac_nf)
local macro_rules | `(∅) => `(by simp)
local macro_rules | `(nofun) => `(by decide)
local macro_rules | `(tactic| symm) => `(tactic| walk_at "rd")
def A00:=@PySem.wpAny_bind
def A01:=@PySem.Heap.get?_push_of_some
def A02:=@List.getElem?_eq_some_iff
def A03:=@List.getElem?_eq_getElem
def A04:=@PySem.wpAny_pure
def A05:=@List.length_map
def A06:=@List.mem_of_getElem?
def A07:=@PySem.Heap.lt_size
def A08:=@List.mem_append
def A09:=@List.mem_map
def A0A:=@Nat.le_refl
def A0B:=@Bool.false_ne_true
def A0C:=@List.mem_cons_of_mem
def A0D:=@List.mem_cons
def A0E:=@PySem.Heap.get?_push_size
def A0F:=@List.length_cons
def A0G:=@List.getElem?_map
def A0H:=@List.length_append
def A0I:=@List.map_cons
def A0J:=@List.mem_cons_self
def A0K:=@List.mem_append_right
def A0L:=@if_neg
def A0M:=@List.mem_append_left
def A0N:=@List.size_toArray
def A0O:=@Nat.ne_of_lt
def A0P:=@Nat.le_trans
def A0Q:=@if_pos
def A0R:=@decide_eq_false
def A0S:=@beq_eq_false_iff_ne
def A0T:=@List.nodup_cons
def A0U:=@decide_eq_true
def A0V:=@Nat.lt_of_lt_of_le
def A0W:=@List.all_eq_true
def A0X:=@Option.some.inj
def A0Y:=@List.length_eq_zero_iff
def A0Z:=@Bool.and_eq_true
def A10:=@List.take_add_one
def A11:=@PySem.sizeLine_eq
def A12:=@List.mem_singleton
def A13:=@List.mem_filter
def A14:=@List.map_congr_left
def A15:=@List.filter_cons
def A16:=@PySem.wpAny_field
def A17:=@List.length_take
def A18:=@PySem.W.kia_one
def A19:=@List.map_append
def A1A:=@List.nodup_append
def A1B:=@List.length_replicate
def A1C:=@PySem.W.mg_of
def A1D:=@List.any_eq_true
def A1E:=@List.take_length
def A1F:=@List.length_singleton
def A1G:=@PySem.Heap.size_push
def A1H:=@List.lookup_cons
def A1I:=@List.append_assoc
def A1J:=@Bool.eq_iff_iff
def A1K:=@List.getElem?_append_left
def A1L:=@List.getElem_inj
def A1M:=@List.replicate_succ
def A1N:=@PySem.wpAny_truthy_bool
def A1O:=@Nat.le_of_ble_eq_true
def A1P:=@PySem.wpAny_holding
def A1Q:=@List.contains_cons
def A1R:=@List.getElem?_set_ne
def A1S:=@List.getElem?_append_right
def A1T:=@PySem.Heap.get?_update_other
def A1U:=@True.intro
def A1V:=@List.getElem_of_mem
def A1W:=@List.filter_sublist
def A1X:=@PySem.wpAny_mono
def A1Y:=@PySem.wpAny_seqItems
def A1Z:=@beq_iff_eq
def A20:=@PySem.wpAny_newObj_type
def A21:=@of_decide_eq_true
def A22:=@PyProof.Rows.callWith_type1
def A23:=@Array.getElem?_eq_some_iff
def A24:=@List.length_drop
def A25:=@Nat.lt_irrefl
def A26:=@Array.getElem?_toList
def A27:=@PySem.wpAny_pyIter_tuple
def A28:=@PySem.wpAny_setField_rec
def A29:=@PyProof.Rows.slot_tuple_getitem
def A2A:=@List.flatten_cons
def A2B:=@PySem.wpAny_loadPart_at
def A2C:=@PySem.PassesOwn.never
def A2D:=@decide_eq_true_eq
def A2E:=@Nat.le_of_lt
def A2F:=@List.map_map
def A2G:=@PySem.mem_of_lookup
def A2H:=@PySem.wpAny_callSpecial?_slot
def A2I:=@List.any_cons
def A2J:=@List.sum_cons
def A2K:=@PySem.F.plainAttrs_list
def A2L:=@PySem.call_meets
def A2M:=@List.getElem?_set_self
def A2N:=@PySem.wpAny_Call_Name_kw
def A2O:=@decide_eq_true_iff
def A2P:=@Int.emod_lt_of_pos
def A2Q:=@Nat.ne_of_gt
def A2R:=@Nat.zero_le
def A2S:=@PySem.Heap.get?_update_self
def A2T:=@PySem.Obj.isFreed_of_fields
def A2U:=@List.getElem?_toArray
def A2V:=@List.length_filter_le
def A2W:=@List.mem_of_mem_take
def A2X:=@PySem.wpAny_binaryOp_repeat_ref
def A2Y:=@List.mem_range
def A2Z:=@PySem.wpAny_call_entry
def A30:=@Array.length_toList
def A31:=@Int.toNat_of_nonneg
def A32:=@PySem.Paired.length
def A33:=@List.append_nil
def A34:=@List.getElem?_replicate
def A35:=@PySem.wpAny_getItem_str_slice
def A36:=@List.filter_append
def A37:=@PySem.Obj.data_mapFields
def A38:=@List.getElem?_cons_succ
def A39:=@PySem.W.tail_of_in
def A3A:=@Int.emod_nonneg
def A3B:=@PySem.typeIs_int
def A3C:=@Nat.le_succ
def A3D:=@PySem.wpAny_pyIter_list
def A3E:=@List.filter_congr
def A3F:=@PySem.codeAny_mono
def A3G:=@Nat.min_le_right
def A3H:=@beq_self_eq_true
def A3I:=@Option.bind_some
def A3J:=@PySem.Around.under_plainId
def A3K:=@PySem.W.looks_findIn
def A3L:=@PySem.wpAny_onRaise
def A3M:=@PySem.wpAny_passesOwn
def A3N:=@Nat.le_antisymm
def A3O:=@PySem.codeAny_builtin
def A3P:=@PySem.tupleKind_room_in1
def A3Q:=@List.lookup_append
def A3R:=@Bool.or_true
def A3S:=@List.any_eq_false
def A3T:=@PySem.F.args_tuple_add_2
def A3U:=@List.reverse_cons
def A3V:=@List.length_range
def A3W:=@PySem.wpAny_rule
def A3X:=@Nat.lt_succ_of_lt
def A3Y:=@PySem.wpAny_dictEntries
def A3Z:=@List.flatMap_cons
def A40:=@PySem.F.slot_list_append
def A41:=@PySem.F.type_list_append
def A42:=@List.eq_of_mem_replicate
def A43:=@PySem.F.entry_tuple_add
def A44:=@Bool.false_or
def A45:=@List.mem_flatMap
def A46:=@PySem.wpAny_isInstance
def A47:=@PySem.F.slot_tuple_add
def A48:=@Option.map_eq_some_iff
def A49:=@List.take_of_length_le
def A4A:=@List.range_succ_eq_map
def A4B:=@List.of_mem_zip
def A4C:=@PySem.wpAny_typeOf
def A4D:=@List.foldl_cons
def A4E:=@List.nil_append
def A4F:=@Nat.mul_comm
def A4G:=@Option.map_some
def A4H:=@Nat.lt_trans
def A4I:=@PySem.post_val_or_str
def A4J:=@PySem.wpAny_notOrdered_dict
def A4K:=@List.take_append_drop
def A4L:=@PySem.wpAny_call
def A4M:=@Array.mem_toList_iff
def A4N:=@List.mem_of_mem_drop
def A4O:=@PySem.codeAny_call_builtin
def A4P:=@PySem.wpAny_updateSeq_pair
def A4Q:=@Bool.false_and
def A4R:=@PySem.wpAny_setField
def A4S:=@Sum.inl.inj
def A4T:=@PySem.wpAny_isSubtype_exc
def A4U:=@PySem.W.looks_mroIn
def A4V:=@PySem.W.looks_clsIn
def A4W:=@Array.toList_append
def A4X:=@Array.append_assoc
def A4Y:=@List.mem_filterMap
def A4Z:=@PySem.wpAny_standAt
def A50:=@PySem.Code.quiet_builtin
def A51:=@List.Nodup.sublist
def A52:=@PySem.Value.ref.inj
set_option linter.all false
set_option maxRecDepth 100000
set_option maxHeartbeats 4000000
set_option Elab.async false
set_option compiler.extract_closed false
namespace L2
open PySem PySem.Spec PyProof.Rows
abbrev Key:=Sum Int Str
def Li:Key->Value->Bool
 |.inl k,v=>Value.isInt k v
 |.inr x,v=>Value.isStrOf x v
def keyH (w:World):Key->Int
 |.inl k=>hashInt k
 |.inr x=>hashStr w x
theorem B4:∀ {k:Key} {v:Value},Li k v=true->(∃ i t,k=Sum.inl i/\v=Value.int i t)\/(∃ x t,k=Sum.inr x/\v=Value.str x t)
 |.inl i,v,h=>by obtain⟨t,e⟩:=Value.isInt_shape (k:=i) (v:=v) h;exact .inl ⟨i,t,rfl,e⟩
 |.inr x,v,h=>by obtain⟨t,e⟩:=Value.isStrOf_shape (x:=x) (v:=v) h;exact .inr ⟨x,t,rfl,e⟩
theorem Tx (i:Int)(t:Tok):Li (.inl i) (.int i t)=true:=by simp[Li,Value.isInt]
theorem Rt (x:Str)(t:Tok):Li (.inr x) (.str x t)=true:=by simp[Li,Value.isStrOf]
theorem ag5 (a b:Int):decide ((Sum.inl a:Key)=Sum.inl b)=(a==b):=by
 by_cases e:a=b
 . subst e;simp
 have h:¬ (Sum.inl a:Key)=Sum.inl b:=λq=>e (A4S q);rw[A0R h];exact(A0S.mpr e).symm
theorem ah1 (a b:Str):decide ((Sum.inr a:Key)=Sum.inr b)=decide (a=b):=by
 by_cases e:a=b
 . subst e;simp
 have h:¬ (Sum.inr a:Key)=Sum.inr b:=λq=>e (Sum.inr.inj q);rw[A0R h,A0R e]
theorem ad2 (a:Int)(b:Str):decide ((Sum.inl a:Key)=Sum.inr b)=false:=A0R (λq=>nomatch q)
theorem ac2 (a:Str)(b:Int):decide ((Sum.inr a:Key)=Sum.inl b)=false:=A0R (λq=>nomatch q)
def Ak (prog:Program)(w:World):PySem.KeyKind prog w Key where
 is:=Li
 hash:=keyH w
 inj:=λv a b ha hb=>by
  rcases B4 ha with ⟨i,t,rfl,rfl⟩|⟨x,t,rfl,rfl⟩
  . rcases B4 hb with ⟨j,u,rfl,e⟩|⟨y,u,rfl,e⟩
    . injection e with e1 _;rw[e1]
    exact nomatch e
  rcases B4 hb with ⟨j,u,rfl,e⟩|⟨y,u,rfl,e⟩
  . exact nomatch e
  injection e with e1 _;rw[e1]
 byValue:=λk v h=>by rcases B4 h with ⟨i,t,rfl,rfl⟩|⟨x,t,rfl,rfl⟩<;>rfl
 pyHash:=λhv h=>by
  rcases B4 hv with ⟨i,t,rfl,rfl⟩|⟨x,t,rfl,rfl⟩
  . exact wpAny_pyHash_int h
  exact wpAny_pyHash_str h
 eqBool:=λhu hv h=>by
  rcases B4 hu with ⟨i,t,rfl,rfl⟩|⟨x,t,rfl,rfl⟩
  . rcases B4 hv with ⟨j,u,rfl,rfl⟩|⟨y,u,rfl,rfl⟩
    . rw[ag5] at h;exact wpAny_eqBool_int h
    rw[ad2] at h;exact SeqAt.EqAt.int_str i t y u _ _ _ _ h
  rcases B4 hv with ⟨j,u,rfl,rfl⟩|⟨y,u,rfl,rfl⟩
  . rw[ac2] at h;exact SeqAt.EqAt.str_int x t j u _ _ _ _ h
  rw[ah1] at h;exact wpAny_eqBool_str h
 «strs»:=λk x t v h=>by
  rcases B4 h with ⟨i,u,rfl,e⟩|⟨y,u,rfl,e⟩
  . exact nomatch e
  injection e with e1 _;subst e1
  cases v<;>rfl
theorem Ol (prog:Program)(w:World)(i:Int)(t:Tok):(Ak prog w).is (.inl i) (.int i t)=true:=Tx i t
theorem On (prog:Program)(w:World)(x:Str)(t:Tok):(Ak prog w).is (.inr x) (.str x t)=true:=Rt x t
inductive V where
 |non | bl (b:Bool) | int (i:Int) | str (x:Str) | byt (b:Array UInt8) | flt (b:UInt64) | ref (a:Addr) | ty (n:String)
 deriving DecidableEq
def RelV:V->Value->Prop
 |.non,u=>u=Value.none
 |.bl b,u=>u=Value.bool b
 |.int i,u=>∃ t,u=Value.int i t
 |.str x,u=>∃ t,u=Value.str x t
 |.byt b,u=>∃ t,u=Value.bytes b t
 |.flt b,u=>∃ t,u=Value.float b t
 |.ref a,u=>u=Value.ref a
 |.ty n,u=>u=Value.type n
abbrev Vals:List V->List Value->Prop:=Paired RelV
theorem Vals.length {xs:List V} {us:List Value} (r:Vals xs us):xs.length=us.length:=A32 r
theorem Vals.get:∀ {xs:List V} {us:List Value} {i:Nat} {x:V},Vals xs us->xs[i]? = some x->∃ u,us[i]? = some u/\RelV x u
 |_,_,_,_,.nil,e=>by simp at e
 |_,_,0,_,.cons r _,e=>by simp at e;subst e;exact⟨_,rfl,r⟩
 |_,_,i+1,x,.cons _ t,e=>by obtain⟨u,h1,h2⟩:=Vals.get (i:=i) (x:=x) t (by simpa using e);exact⟨u,by simpa using h1,h2⟩
theorem Vals.set {x:V}{u:Value}(r:RelV x u):∀ {xs:List V} {us:List Value} (i:Nat),Vals xs us->Vals (xs.set i x) (us.set i u)
 |_,_,_,.nil=>.nil
 |_,_,0,.cons _ t=>.cons r t
 |_,_,i+1,.cons q t=>.cons q (Vals.set r i t)
theorem Vals.append:∀ {xs ys:List V} {us ws:List Value},Vals xs us->Vals ys ws->Vals (xs++ys) (us++ws)
 |_,_,_,_,.nil,s=>s
 |_,_,_,_,.cons r t,s=>.cons r (Vals.append t s)
theorem Vals.take:∀ {xs:List V} {us:List Value} (n:Nat),Vals xs us->Vals (xs.take n) (us.take n)
 |_,_,0,_=>.nil
 |_,_,_+1,.nil=>.nil
 |_,_,n+1,.cons r t=>.cons r (Vals.take n t)
theorem Vals.drop:∀ {xs:List V} {us:List Value} (n:Nat),Vals xs us->Vals (xs.drop n) (us.drop n)
 |_,_,0,r=>r
 |_,_,_+1,.nil=>.nil
 |_,_,n+1,.cons _ t=>Vals.drop n t
theorem Vals.none_of:∀ {xs:List V} {us:List Value} {i:Nat},Vals xs us->xs[i]? = none->us[i]? = none:=fun {xs us i} r e=>by have h1:=r.length;have h2:xs.length<=i:=List.getElem?_eq_none_iff.mp e;exact List.getElem?_eq_none_iff.mpr (by omega)
def RelO:Option V->Option Value->Prop
 |some v,some u=>RelV v u
 |none,none=>True
 |_,_=>False
def KV {κ:Type}:List (κ×V)->List (κ×Value)->Prop:=Paired λ(p:κ×V) (q:κ×Value)=>p.1=q.1/\RelV p.2 q.2
def kV:Key->V
 |.inl i=>.int i
 |.inr x=>.str x
def IsTupN (h:Heap)(a:Addr)(items:Array Value):Prop:=∃ o,h.get? a=some o/\o.cls = .type "tuple" /\ (∃ n,o.data = .seq items n)/\o.dict=none
theorem IsTupN.tup {h:Heap}{a:Addr}{items:Array Value}(x:IsTupN h a items):IsTup h a items:=let ⟨o,h1,h2,⟨n,h3⟩,_⟩:=x;⟨o,h1,h2,n,h3⟩
theorem IsTupN.new (h:Heap)(its:Array Value):IsTupN (h.push {cls:=.type "tuple",data:=.seq its}) h.objs.size its:=⟨_,A0E _ rfl,rfl,⟨_,rfl⟩,rfl⟩
inductive HO where
 |lst (xs:List V)
 |tup (xs:List V)
 |dK (kvs:List (Key×V)) | dT (kvs:List (List Key×V))
 |set (S:Int->Bool) (n:Nat)
 |ins (C dx:Addr) (fs:List (Str×V))
 |own (x:Addr)
 |xd (fs:List (Str×V))
 |met (f x:Addr)
 |rng (lo hi:Int)
 |frz (o:Obj) (u:HO)
 |tbl (ps:Array Value)
 |ext (φ:Heap->Prop)
abbrev Hp:=Addr->Option HO
def upd (H:Hp)(a:Addr)(o:HO):Hp:=λb=>if b=a then some o else H b
theorem Aa {H:Hp}{a:Addr}{o:HO}:upd H a o a=some o:=by unfold upd;rw[if_pos rfl]
theorem Al {H:Hp}{a b:Addr}{o:HO}(h:b≠a):upd H a o b=H b:=by unfold upd;rw[if_neg h]
theorem ne_of {H:Hp}{a b:Addr}{o u:HO}(h:H a=some o)(h':H b=some u)(d:o≠u):a≠b:=by intro e;subst e;rw[h] at h';exact d (A0X h')
theorem ne_of_none {H:Hp}{a b:Addr}{o:HO}(h:H a=some o)(h':H b=none):a≠b:=by intro e;subst e;rw[h] at h';cases h'
section
variable (P:Program)(w:World)
def ObjOk (H:Hp)(h:Heap)(a:Addr):HO->Prop
 |.lst xs=>xs.length<=sizeLine/\∃(its:List Value) (n:Nat),Vals xs its/\h.get? a=some {cls:=.type "list",data:=.seq its.toArray n}
 |.tup xs=>xs.length<=sizeLine/\∃ its:List Value,Vals xs its/\IsTupN h a its.toArray
 |.dK kvs=>kvs.length<=sizeLine/\(a==sysModules)=false/\∃ vs,KV kvs vs/\h.DictOf (Ak P w) a vs
 |.dT kvs=>kvs.length<=sizeLine/\(a==sysModules)=false/\∃ xs:List (List Key×Addr×Value),
   Paired (λ(p:List Key×V) (q:List Key×Addr×Value)=>p.1=q.1/\H q.2.1=some (.tup (p.1.map kV))/\RelV p.2 q.2.2) kvs xs /\
   ∃ o es ep,h.get? a=some o/\o.ExactDict/\o.data = .dict es ep/\es.toList=xs.map (entryOfKey (tupleKind (Ak P w)))/\(xs.map (·.1)).Nodup
 |.set S n=>h.SetOf (intKind P w) a S n
 |.ins C dx fs=>H dx=some (.own a)/\fs.length<=1000/\dx≠a/\h.get? a=some (W.instObj C dx) /\
   ∃ mA,h.Ns1 dx mA/\(∀ f,RelO (fs.lookup f) (mA f))/\PySem.Within mA (fs.map (·.1))
 |.own _=>∃ o,h.get? a=some o
 |.xd fs=>∃ mA,h.Ns1 a mA/\∀ f,RelO (fs.lookup f) (mA f)
 |.rng lo hi=>∃ t u v,h.get? a=some {cls:=.type "range",data:=.fields #[.int lo t,.int hi u,.int 1 v]}
 |.frz o u=>h.get? a=some o/\ObjOk H h a u
 |.tbl ps=>h.get? a=some {cls:=.none,data:=.fields ps}
 |.met f x=>h.get? a=some (W.methodObj (.ref f) (.ref x))
 |.ext φ=>φ h/\(∃ o,h.get? a=some o)/\∀ h1 h2:Heap,φ h1->(∀ o,h1.get? a=some o->h2.get? a=some o)->φ h2
def HOk (H:Hp)(h:Heap):Prop:=∀ a o,H a=some o->ObjOk P w H h a o
end
section
variable {P:Program}{w:World}{H H':Hp}{h h':Heap}{a:Addr}{o:HO}
theorem ObjOk.lt (x:ObjOk P w H h a o):a<h.objs.size:=by
 cases o with
 |lst xs=>obtain⟨_,_,_,_,e⟩:=x;exact A07 e
 |tup xs=>obtain⟨_,_,_,p⟩:=x;exact p.tup.lt
 |dK kvs=>obtain⟨_,_,_,_,o,_,_,e,_⟩:=x;exact A07 e
 |dT kvs=>obtain⟨_,_,_,_,o,_,_,e,_⟩:=x;exact A07 e
 |set S n=>obtain⟨o,_,_,_,e,_⟩:=x;exact A07 e
 |ins C dx fs=>obtain⟨_,_,_,e,_⟩:=x;exact A07 e
 |own y=>obtain⟨_,e⟩:=x;exact A07 e
 |xd fs=>obtain⟨_,⟨_,_,_,e,_⟩,_⟩:=x;exact A07 e
 |rng lo hi=>obtain⟨_,_,_,e⟩:=x;exact A07 e
 |frz ob u=>obtain⟨e,_⟩:=x;exact A07 e
 |tbl ps=>exact A07 (show h.get? a=some _ from x)
 |met f y=>exact A07 (show h.get? a=some _ from x)
 |ext φ=>obtain⟨_,⟨_,e⟩,_⟩:=x;exact A07 e
theorem Paired.mapP {α β:Type}{F G:α->β->Prop}:∀ {l₁:List α} {l₂:List β},Paired F l₁ l₂->(∀ a b,F a b->G a b)->Paired G l₁ l₂
 |_,_,.nil,_=>.nil
 |_,_,.cons r t,f=>.cons (f _ _ r) (Paired.mapP t f)
theorem ObjOk.stay (x:ObjOk P w H h a o)(k:∀ b u,(b=a\/H b=some (.own a))->h.get? b=some u->h'.get? b=some u)
  (ho:∀ b,H b=some (.own a)->H' b=some (.own a)) (ht:∀ b xs,H b=some (.tup xs)->H' b=some (.tup xs)):ObjOk P w H' h' a o:=by
 induction o with
 |lst xs=>obtain⟨z,its,n,r,e⟩:=x;exact⟨z,its,n,r,k _ _ (.inl rfl) e⟩
 |tup xs=>obtain⟨z,its,r,ob,e,c⟩:=x;exact⟨z,its,r,ob,k _ _ (.inl rfl) e,c⟩
 |dK kvs=>obtain⟨z,y,vs,r,ob,es,ep,e,c⟩:=x;exact⟨z,y,vs,r,ob,es,ep,k _ _ (.inl rfl) e,c⟩
 |dT kvs=>obtain⟨z,y,xs,r,ob,es,ep,e,c⟩:=x;exact⟨z,y,xs,Paired.mapP r λp q z=>⟨z.1,ht _ _ z.2.1,z.2.2⟩,ob,es,ep,k _ _ (.inl rfl) e,c⟩
 |set S n=>obtain⟨ob,es,ep,t,e,c⟩:=x;exact⟨ob,es,ep,t,k _ _ (.inl rfl) e,c⟩
 |ins C dx fs=>obtain⟨d,z,ne,e,mA,⟨od,es,ep,e2,c⟩,r⟩:=x;exact⟨ho _ d,z,ne,k _ _ (.inl rfl) e,mA,⟨od,es,ep,k _ _ (.inr d) e2,c⟩,r⟩
 |own y=>obtain⟨ob,e⟩:=x;exact⟨ob,k _ _ (.inl rfl) e⟩
 |xd fs=>obtain⟨mA,⟨od,es,ep,e,c⟩,r⟩:=x;exact⟨mA,⟨od,es,ep,k _ _ (.inl rfl) e,c⟩,r⟩
 |rng lo hi=>obtain⟨t,u,v,e⟩:=x;exact⟨t,u,v,k _ _ (.inl rfl) e⟩
 |frz ob u ih=>obtain⟨e,q⟩:=x;exact⟨k _ _ (.inl rfl) e,ih q⟩
 |tbl ps=>have e:h.get? a=some {cls:=.none,data:=.fields ps}:=x;show h'.get? a=some {cls:=.none,data:=.fields ps};exact k a _ (.inl rfl) e
 |met f y=>have e:h.get? a=some (W.methodObj (.ref f) (.ref y)):=x;show h'.get? a=some (W.methodObj (.ref f) (.ref y));exact k a _ (.inl rfl) e
 |ext φ=>obtain⟨p,⟨o,e⟩,st⟩:=x;exact⟨st _ _ p λo q=>k _ _ (.inl rfl) q,⟨o,k _ _ (.inl rfl) e⟩,st⟩
theorem HOk.lt (x:HOk P w H h)(e:H a=some o):a<h.objs.size:=(x a o e).lt
theorem HOk.fresh (x:HOk P w H h)(e:h.objs.size<=a):H a=none:=by
 cases q:H a with
 |none=>rfl
 |some u=>exact absurd (A0V (x.lt q) e) (A25 _)
theorem HOk.kept (x:HOk P w H h)(k:∀ b u,h.get? b=some u->h'.get? b=some u):HOk P w H h':=λa o e=>
 (x a o e).stay (λb u _ q=>k b u q) (λ_ q=>q) λ_ _ q=>q
theorem HOk.laid (x:HOk P w H h)(k:∀ b u,h.get? b=some u->h'.get? b=some u)(hp:h.objs.size<=a)(new:ObjOk P w (upd H a o) h' a o):HOk P w (upd H a o) h':=λb u e=>by
 have hn:=x.fresh hp
 by_cases hb:b=a
 . subst hb;rw[Aa] at e;cases e;exact new
 rw[Al hb] at e;exact(x b u e).stay (λc v _ q=>k c v q) (λc q=>by rw[Al (ne_of_none q hn)];exact q) λc xs q=>by rw[Al (ne_of_none q hn)];exact q
end
def Rd (H:Hp)(a:Addr)(u:HO):Prop:=H a=some u\/∃ o,H a=some (.frz o u)
theorem Rd.of {H:Hp}{a:Addr}{u:HO}(h:H a=some u):Rd H a u:=.inl h
theorem Rd.ok {P:Program}{w:World}{H:Hp}{h:Heap}{a:Addr}{u:HO}(r:Rd H a u)(x:HOk P w H h):ObjOk P w H h a u:=by
 rcases r with r|⟨o,r⟩
 . exact x a u r
 obtain⟨_,q⟩:=x a _ r;exact q
def Mut:Option HO->Prop
 |some (.lst _)=>True
 |some (.dK _)=>True
 |some (.dT _)=>True
 |some (.set _ _)=>True
 |some (.ins _ _ _)=>True
 |some (.ext _)=>True
 |_=>False
section
variable {P:Program}{w:World}{H:Hp}{h h':Heap}{x e:Addr}{o':HO}
theorem HOk.write (ok:HOk P w H h)(mu:Mut (H x))(he:e=x\/H e=some (.own x))(k:∀ b u,b≠e->h.get? b=some u->h'.get? b=some u)(heo:∃ u,h'.get? e=some u)
  (new:ObjOk P w (upd H x o') h' x o'):HOk P w (upd H x o') h':=λb u q=>by
 have nown:∀ c y,H c=some (.own y)->c≠x:=λc y r z=>by subst z;rw[r] at mu;exact mu
 have ntup:∀ c xs,H c=some (.tup xs)->c≠x:=λc xs r z=>by subst z;rw[r] at mu;exact mu
 by_cases hb:b=x
 . subst hb;rw[Aa] at q;cases q;exact new
 rw[Al hb] at q
 by_cases hbe:b=e
 . have q':H b=some (.own x):=by
    rcases he with z|z
    . exact absurd (hbe.trans z) hb
    rw[hbe];exact z
   rw[q] at q';cases q';obtain⟨v,hv⟩:=heo;exact⟨v,by rw[hbe];exact hv⟩
 refine(ok b u q).stay (λc v hc r=>k c v ?_ r) (λc r=>by rw[Al (nown c b r)];exact r) λc xs r=>by rw[Al (ntup c xs r)];exact r
 rcases hc with rfl|hc
 . exact hbe
 rintro rfl;rcases he with z|z
 . exact nown c b hc z
 rw[hc] at z;cases z;exact hb rfl
end
structure Un (fs ex:List Addr)(H H':Hp)(h h':Heap):Prop where
 keep:∀ b o,h.get? b=some o->H b=none->b∉fs->b∉ex->h'.get? b=some o
 slot:∀ b o,h.get? b=some o->H b=none->b∈fs->b∉ex->∃ sl,h'.get? b=some {o with slots:=sl}
 free:∀ b o,h.get? b=some o->H b=none->b∉ex->H' b=none
 there:∀ b o,h.get? b=some o->b∉ex->∃ o',h'.get? b=some o'
 tups:∀ b xs,H b=some (.tup xs)->H' b=some (.tup xs)
 frzs:∀ b o u,H b=some (.frz o u)->H' b=some (.frz o u)
 tbls:∀ b ps,H b=some (.tbl ps)->∃ more,H' b=some (.tbl (ps++more))
section
variable {fs fs' ex ex':List Addr}{H H1 H2:Hp}{h h1 h2 h':Heap}{a x e:Addr}{o:HO}
theorem Un.any (u:Un fs ex H H1 h h1){b:Addr}{ob:Obj}(q:h.get? b=some ob)(n:H b=none)(hx:b∉ex):∃ sl,h1.get? b=some {ob with slots:=sl}:=by
 by_cases hb:b∈fs
 . exact u.slot b ob q n hb hx
 exact⟨ob.slots,u.keep b ob q n hb hx⟩
theorem Un.trans (a:Un fs ex H H1 h h1)(b:Un fs ex H1 H2 h1 h2):Un fs ex H H2 h h2 where
 keep:=λc ob q n hc hx=>b.keep c ob (a.keep c ob q n hc hx) (a.free c ob q n hx) hc hx
 slot:=λc ob q n hc hx=>by obtain⟨sl,e1⟩:=a.slot c ob q n hc hx;obtain⟨sl',e2⟩:=b.slot c _ e1 (a.free c ob q n hx) hc hx;exact⟨sl',e2⟩
 free:=λc ob q n hx=>by obtain⟨o',e1⟩:=a.there c ob q hx;exact b.free c o' e1 (a.free c ob q n hx) hx
 there:=λc ob q hx=>by obtain⟨o',e1⟩:=a.there c ob q hx;exact b.there c o' e1 hx
 tups:=λc xs q=>b.tups c xs (a.tups c xs q)
 frzs:=λc ob xs q=>b.frzs c ob xs (a.frzs c ob xs q)
 tbls:=λc ps q=>by obtain⟨m1,e1⟩:=a.tbls c ps q;obtain⟨m2,e2⟩:=b.tbls c _ e1;exact⟨m1++m2,by rw[e2,A4X]⟩
theorem Un.kept (k:∀ b u,h.get? b=some u->h'.get? b=some u):Un fs ex H H h h':=
 ⟨λb ob q _ _ _=>k b ob q,λb ob q _ _ _=>⟨ob.slots,k b ob q⟩,λ_ _ _ n _=>n,λb ob q _=>⟨ob,k b ob q⟩,λ_ _ q=>q,λ_ _ _ q=>q,λ_ ps q=>⟨#[],by rw[q];simp⟩⟩
theorem Un.refl:Un fs ex H H h h:=Un.kept λ_ _ q=>q
theorem Un.laid (k:∀ b u,h.get? b=some u->h'.get? b=some u)(hp:h.objs.size<=a)(hn:H a=none):Un fs ex H (upd H a o) h h' where
 keep:=λb u q _ _ _=>k b u q
 slot:=λb u q _ _ _=>⟨u.slots,k b u q⟩
 free:=λb u q n _=>by rw[Al (A0O (A0V (A07 q) hp))];exact n
 there:=λb u q _=>⟨u,k b u q⟩
 tups:=λb xs q=>by rw[Al (ne_of_none q hn)];exact q
 frzs:=λb u xs q=>by rw[Al (ne_of_none q hn)];exact q
 tbls:=λb ps q=>⟨#[],by rw[Al (ne_of_none q hn),q];simp⟩
theorem Un.write (mu:Mut (H x))(he:e=x\/H e=some (.own x))(k:∀ b u,b≠e->h.get? b=some u->h'.get? b=some u)(heo:∃ u,h'.get? e=some u):Un fs ex H (upd H x o) h h':=by
 have hx:∀ b,H b=none->b≠x:=λb n z=>by subst z;rw[n] at mu;exact mu
 have hb:∀ b,H b=none->b≠e:=λb n z=>by
  subst z;rcases he with r|r
  . exact hx b n r
  rw[n] at r;cases r
 have hm:∀ b u,H b=some u->¬ Mut (some u)->b≠x:=λb u q nm z=>by subst z;rw[q] at mu;exact nm mu
 refine⟨λb u q n _ _=>k b u (hb b n) q,λb u q n _ _=>⟨u.slots,k b u (hb b n) q⟩,λb u q n _=>by rw[Al (hx b n)];exact n,λb u q _=>?_,
  λb xs q=>by rw[Al (hm b _ q λz=>z)];exact q,λb u xs q=>by rw[Al (hm b _ q λz=>z)];exact q,λb ps q=>⟨#[],by rw[Al (hm b _ q λz=>z),q];simp⟩⟩
 by_cases hbe:b=e
 . subst hbe;exact heo
 exact⟨u,k b u hbe q⟩
theorem Un.mono (u:Un fs ex H H1 h h1)(hs:∀ b∈fs,b∈fs')(hx:∀ b∈ex,b∈ex'):Un fs' ex' H H1 h h1:=
 ⟨λb ob q n hb he=>u.keep b ob q n (λz=>hb (hs b z)) λz=>he (hx b z),λ_ _ q n _ he=>u.any q n λz=>he (hx _ z),λb ob q n he=>u.free b ob q n λz=>he (hx b z),λb ob q he=>u.there b ob q λz=>he (hx b z),u.tups,u.frzs,u.tbls⟩
end
def trk (h:Heap)(H:Hp):List Addr:=(List.range h.objs.size).filter λa=>(H a).isSome
def We (h:Heap)(H:Hp):Heap:=W.hideAll h (trk h H)
theorem Sb (h:Heap)(H:Hp):(We h H).objs.size=h.objs.size:=W.hideAll_size _ _
theorem Wl {h:Heap}{H:Hp}{b:Addr}{o:Obj}(e:h.get? b=some o)(n:H b=none):(We h H).get? b=some o:=
 W.hideAll_get _ e λhm=>by have q:(H b).isSome=true:=(A13.mp hm).2;rw[n] at q;simp at q
theorem Z9 {h:Heap}{H:Hp}{b:Addr}{o:Obj}(e:(We h H).get? b=some o):h.get? b=some o/\H b=none:=by
 have e':h.get? b=some o:=W.of_hideAll (trk h H) e;refine⟨e',?_⟩
 cases q:H b with
 |none=>rfl
 |some x=>have hm:b∈trk h H:=List.mem_filter.mpr ⟨List.mem_range.mpr (Heap.lt_size e'),by simp[q]⟩;have z:(We h H).get? b=none:=W.hideAll_none (trk h H) hm;rw[z] at e;cases e
def a28 (g h:Heap)(L:Addr):List (Addr×Obj):=(List.range h.objs.size).filterMap λa=>if a=L\/(g.get? a).isSome=true then none else(h.get? a).map λo=>(a,o)
def rest (g h:Heap)(L d:Addr):List (Addr×Obj):=(a28 g h L).filter λp=>decide (p.1≠d)
structure Mod (K:W.Frag)(mg:Str->Option Value)(base:Heap):Prop where
 kin:K.In base
 glob:base.Ns mainGlobals mg
 blt:∃ mb,base.Ns builtinsNs mb/\∀ x:Str,x ≠ "__name__" -> mb x=bootBuiltins x
 nolimit:base.NoLimit
/-- the context: a def's body (or a comprehension's block) running. base: fixed through the whole law;s₀,H₀: the entry;outer: the frames whose slots others may change (a def's callers);stack: all frames that run;
  ex: iterators that were made ahead of the entry and are walked here (a comprehension's);fn: the names whose cells were made at the entry (a def: all;a comprehension's block: its own);calm: not within an except suite;pn: pins that every state bears;xe: what is wanted of an exception that leaves the code -/
structure Cx where
 prog:Program
 w:World
 K:W.Frag
 mg:Str->Option Value
 base:Heap
 A:Around
 N:List Str
 s₀:Shared
 H₀:Hp
 env:Env
 outer:List Env
 stack:List Env
 ex:List Addr
 fn:Str->Bool
 calm:Bool
 pn:List (Addr×Obj)
 xe:Value->Shared->Prop
def frs (l:List Env):List Addr:=l.filterMap (·.frame)
abbrev Cx.fs (X:Cx):List Addr:=frs X.outer
def Vis (sc:Scope)(x:Str):Prop:=sc.names.lookup x=some .local\/sc.names.lookup x=some .cell\/sc.names.lookup x=some .free
def Loc (sc:Scope)(x:Str):Prop:=sc.names.lookup x=some .local\/sc.names.lookup x=some .cell
def Look (env:Env)(h:Heap)(m:Str->Option Value)(x:Str)(u:Value):Prop:=
 (env.kindOf x=some .local/\m x=some u)\/((env.kindOf x=some .cell\/env.kindOf x=some .free)/\∃ c,env.cells.lookup x=some c/\h.IsCell c (some u))
structure Cx.Ok (X:Cx):Prop where
 mod:Mod X.K X.mg X.base
 kind:X.env.scope.kind = .function
 glob:X.env.globals=mainGlobals
 blt:X.env.builtins=builtinsNs
 above:X.s₀.heap.objs.size<=X.env.locals
 inj:∀ x y c,X.env.cells.lookup x=some c->X.env.cells.lookup y=some c->x=y
 has:∀ x,(X.env.kindOf x=some .cell\/X.env.kindOf x=some .free)->∃ c,X.env.cells.lookup x=some c
 cab:∀ x c,X.fn x=true->X.env.cells.lookup x=some c->X.s₀.heap.objs.size<=c
 hd:X.calm=true->X.A.handled=none
 frames:X.A.frames=some X.stack
 stk:X.stack=X.outer\/(X.stack=X.env :: X.outer/\X.env.frame=some X.env.locals)
 exf:∀ b∈X.ex,b≠X.env.locals/\∀ x c,X.env.cells.lookup x=some c->c≠b
 bs:∀ b o,X.base.get? b=some o->X.s₀.heap.get? b=some o/\X.H₀ b=none
 bsz:X.base.objs.size<=X.s₀.heap.objs.size
 noex:∀ b o,X.base.get? b=some o->b∉X.ex
 exfs:∀ b∈X.ex,b∉X.fs
 funs:X.s₀.heap.FunFrames X.base X.outer
 frf:∀ b∈X.fs,X.H₀ b=none
structure Inv (X:Cx)(pins:List (Addr×Obj))(σ:List (Option V))(H:Hp)(s:Shared):Prop where
 ok:X.Ok
 os:s.os=X.s₀.os
 bare:AllBare s.gens
 base:Un X.fs X.ex X.H₀ H X.s₀.heap s.heap
 loc:∃ m,s.heap.Ns X.env.locals m/\∀(i:Nat) (x:Str) (v:V),X.N[i]? = some x->σ[i]? = some (some v)->Vis X.env.scope x->∃ u,RelV v u/\Look X.env s.heap m x u
 cell:∀ x c,X.env.cells.lookup x=some c->∃ v,s.heap.IsCell c v
 free:H X.env.locals=none
 freeC:∀ x c,X.env.cells.lookup x=some c->H c=none
 pin:∀ p∈X.pn++pins,s.heap.get? p.1=some p.2/\H p.1=none/\p.1≠X.env.locals/\p.1∉X.fs/\∀ v,p.2.data ≠ .cell v
 hok:HOk X.prog X.w H s.heap
 len:σ.length=X.N.length
section
variable {X:Cx}{pins:List (Addr×Obj)}{σ:List (Option V)}{H H':Hp}{s:Shared}{h':Heap}
theorem Cx.Ok.nofr (ok:X.Ok){b:Addr}{o:Obj}(e:X.base.get? b=some o):b∉X.fs:=λhb=>by have:=(ok.funs.mem hb).1;rw[e] at this;cases this
theorem Inv.bs (I:Inv X pins σ H s):∀ b o,X.base.get? b=some o->s.heap.get? b=some o/\H b=none:=λb o e=>
 ⟨I.base.keep b o (I.ok.bs b o e).1 (I.ok.bs b o e).2 (I.ok.nofr e) (I.ok.noex b o e),I.base.free b o (I.ok.bs b o e).1 (I.ok.bs b o e).2 (I.ok.noex b o e)⟩
theorem Inv.bk (I:Inv X pins σ H s):∀ b o,X.base.get? b=some o->s.heap.get? b=some o:=λb o e=>(I.bs b o e).1
theorem Inv.mod (I:Inv X pins σ H s):Mod X.K X.mg X.base:=I.ok.mod
theorem Inv.kIn (I:Inv X pins σ H s):X.K.In s.heap:=I.ok.mod.kin.keeps I.bk
theorem Inv.nolimit (I:Inv X pins σ H s):s.heap.NoLimit:=I.ok.mod.nolimit.keeps I.bk
theorem Inv.lt (I:Inv X pins σ H s):X.env.locals<s.heap.objs.size:=let ⟨_,hn,_⟩:=I.loc;hn.lt
theorem Inv.sz (I:Inv X pins σ H s):X.s₀.heap.objs.size<=s.heap.objs.size:=A0P I.ok.above (A2E I.lt)
theorem Inv.nofs (I:Inv X pins σ H s){a:Addr}(h:s.heap.objs.size<=a):a∉X.fs:=λhb=>by obtain⟨_,o,ho,_⟩:=I.ok.funs.mem hb;exact absurd (A0V (A07 ho) (A0P I.sz h)) (A25 _)
theorem Inv.cne (I:Inv X pins σ H s):∀ x c,X.env.cells.lookup x=some c->c≠X.env.locals:=λx c e z=>by obtain⟨v,o,ho,hd⟩:=I.cell x c e;obtain⟨m,⟨o',es,ep,ho',hd',_⟩,_⟩:=I.loc;rw[z,ho'] at ho;cases ho;rw[hd'] at hd;cases hd
theorem Inv.funs (I:Inv X pins σ H s):s.heap.FunFrames X.base X.outer:=by
 have all:∀(l:List Env),(∀ b∈frs l,b∈X.fs)->X.s₀.heap.FunFrames X.base l->s.heap.FunFrames X.base l:=by
  intro l
  induction l with
  |nil=>intro _ _;trivial
  |cons env r ih=>intro hs hl;obtain⟨hk,⟨L,o,hf,hn,ho,hd⟩,hr⟩:=hl;have hL:L∈X.fs:=hs L (by unfold frs;rw[List.filterMap_cons,hf];exact List.mem_cons_self);obtain⟨sl,e⟩:=I.base.slot L o ho (I.ok.frf L hL) hL λz=>I.ok.exfs L z hL;exact⟨hk,⟨L,_,hf,hn,e,hd⟩,ih (λb hb=>hs b (by unfold frs;rw[List.filterMap_cons,hf];exact List.mem_cons_of_mem _ hb)) hr⟩
 exact all X.outer (λ_ hb=>hb) I.ok.funs
theorem Inv.stack (I:Inv X pins σ H s):s.heap.FunFrames X.base X.stack:=by
 rcases I.ok.stk with e|⟨e,hf⟩
 . rw[e];exact I.funs
 rw[e];obtain⟨m,hn,_⟩:=I.loc;refine .cons (by rw[I.ok.kind];decide) hf hn ?_ I.funs;exact Heap.get?_none_of_le (A0P I.ok.bsz I.ok.above)
theorem Inv.stkSub (I:Inv X pins σ H s):∀ b∈frs X.stack,b∈X.env.locals :: X.fs:=λb hb=>by
 rcases I.ok.stk with e|⟨e,hf⟩
 . rw[e] at hb;exact A0C _ hb
 rw[e] at hb;unfold frs at hb;rw[List.filterMap_cons,hf] at hb;exact hb
theorem Inv.stkFree (I:Inv X pins σ H s):∀ b∈frs X.stack,H b=none:=λb hb=>by
 rcases A0D.mp (I.stkSub b hb) with e|hb
 . rw[e];exact I.free
 obtain⟨_,o,ho,_⟩:=I.ok.funs.mem hb;exact I.base.free b o ho (I.ok.frf b hb) λz=>I.ok.exfs b z hb
theorem Inv.step {g':Array GenState}{t':Nat}{d':Drawn}{ch:List Addr}(I:Inv X pins σ H s)
  (hch:∀ b∈ch,(b∈X.ex\/X.s₀.heap.objs.size<=b)/\b≠X.env.locals/\(∀ x c,X.env.cells.lookup x=some c->c≠b)/\∀ p∈X.pn++pins,p.1≠b)
  (keep:∀ b o,b≠X.env.locals->b∉X.fs->b∉ch->s.heap.get? b=some o->H b=none->h'.get? b=some o)
  (slot:∀ b o,b≠X.env.locals->b∈X.fs->b∉ch->s.heap.get? b=some o->H b=none->∃ sl,h'.get? b=some {o with slots:=sl}) (free:∀ b o,b∉ch->s.heap.get? b=some o->H b=none->H' b=none)
  (there:∀ b o,b∉ch->s.heap.get? b=some o->∃ o',h'.get? b=some o')
  (tups:∀ b xs,H b=some (.tup xs)->H' b=some (.tup xs)) (frzs:∀ b o u,H b=some (.frz o u)->H' b=some (.frz o u)) (tbls:∀ b ps,H b=some (.tbl ps)->∃ more,H' b=some (.tbl (ps++more)))
  (ns:∀ m,s.heap.Ns X.env.locals m->h'.Ns X.env.locals m) (hok:HOk X.prog X.w H' h') (hg:AllBare g') :
  Inv X pins σ H' {s with heap:=h',gens:=g',drawn:=d',toks:=t'}:=by
 have neL:∀ b o,X.s₀.heap.get? b=some o->b≠X.env.locals:=λb o e=>A0O (A0V (A07 e) I.ok.above)
 have neC:∀ b o,X.s₀.heap.get? b=some o->b∉X.ex->b∉ch:=λb o e hx hb=>by
  rcases(hch b hb).1 with z|z
  . exact hx z
  exact absurd (A0V (A07 e) z) (A25 _)
 have cellK:∀ x c,X.env.cells.lookup x=some c->∀ v,s.heap.IsCell c v->h'.IsCell c v:=λx c e v ⟨o,ho,hd⟩=>by
  have nch:c∉ch:=λz=>(hch c z).2.2.1 x c e rfl
  by_cases hc:c∈X.fs
  . obtain⟨sl,q⟩:=slot c o (I.cne x c e) hc nch ho (I.freeC x c e);exact⟨_,q,hd⟩
  exact⟨o,keep c o (I.cne x c e) hc nch ho (I.freeC x c e),hd⟩
 refine⟨I.ok,I.os,hg,⟨λb o e n hb hx=>?_,λb o e n hb hx=>?_,λb o e n hx=>?_,λb o e hx=>?_,λb xs e=>tups b xs (I.base.tups b xs e),λb o xs e=>frzs b o xs (I.base.frzs b o xs e),λb ps e=>?_⟩,?_,λx c e=>?_,?_,λx c e=>?_,λp hp=>?_,hok,I.len⟩
 . exact keep b o (neL b o e) hb (neC b o e hx) (I.base.keep b o e n hb hx) (I.base.free b o e n hx)
 . obtain⟨sl,e1⟩:=I.base.slot b o e n hb hx;obtain⟨sl',e2⟩:=slot b _ (neL b o e) hb (neC b o e hx) e1 (I.base.free b o e n hx);exact⟨sl',e2⟩
 . obtain⟨o',e1⟩:=I.base.there b o e hx;exact free b o' (neC b o e hx) e1 (I.base.free b o e n hx)
 . obtain⟨o',e1⟩:=I.base.there b o e hx;exact there b o' (neC b o e hx) e1
 . obtain⟨m1,e1⟩:=I.base.tbls b ps e;obtain⟨m2,e2⟩:=tbls b _ e1;exact⟨m1++m2,by rw[e2,A4X]⟩
 . obtain⟨m,hn,hl⟩:=I.loc;refine⟨m,ns m hn,λi x v e1 e2 e3=>?_⟩;obtain⟨u,r,l⟩:=hl i x v e1 e2 e3;refine⟨u,r,?_⟩;rcases l with l|⟨k,c,e,z⟩
   . exact .inl l
   exact .inr ⟨k,c,e,cellK x c e _ z⟩
 . obtain⟨v,z⟩:=I.cell x c e;exact⟨v,cellK x c e v z⟩
 . obtain⟨m,⟨o,_,_,ho,_⟩,_⟩:=I.loc;exact free _ o (λz=>(hch _ z).2.1 rfl) ho I.free
 . obtain⟨v,o,ho,hd⟩:=I.cell x c e;exact free c o (λz=>(hch c z).2.2.1 x c e rfl) ho (I.freeC x c e)
 obtain⟨e,n,ne,nf,d⟩:=I.pin p hp;have nch:p.1∉ch:=λz=>(hch p.1 z).2.2.2 p hp rfl;exact⟨keep p.1 p.2 ne nf nch e n,free p.1 p.2 nch e n,ne,nf,d⟩
theorem Inv.un {t':Nat}(I:Inv X pins σ H s)(u:Un X.fs [] H H' s.heap h')(hok:HOk X.prog X.w H' h'):Inv X pins σ H' {s with heap:=h',toks:=t'}:=by
 obtain⟨m,⟨o,es,ep,ho,r⟩,_⟩:=id I.loc;obtain⟨sl,hL⟩:=u.any ho I.free ∅
 exact I.step (g':=s.gens) (d':=s.drawn) (ch:=[]) (λ_ z=>nomatch z) (λb o _ hb _ e n=>u.keep b o e n hb ∅) (λb o _ hb _ e n=>u.slot b o e n hb ∅) (λb o _ e n=>u.free b o e n ∅) (λb o _ e=>u.there b o e ∅) u.tups u.frzs u.tbls (λm' hm=>by obtain⟨o',es',ep',ho',r'⟩:=hm;rw[ho] at ho';cases ho';exact⟨_,es',ep',hL,r'⟩) hok I.bare
theorem Inv.call {g':Array GenState}{t':Nat}{d':Drawn}{ch:List Addr}(I:Inv X pins σ H s)(u:Un (frs X.stack) ch H H' s.heap h')(hok:HOk X.prog X.w H' h')(hg:AllBare g')
  (hch:∀ b∈ch,(b∈X.ex\/X.s₀.heap.objs.size<=b)/\b≠X.env.locals/\(∀ x c,X.env.cells.lookup x=some c->c≠b)/\∀ p∈X.pn++pins,p.1≠b) :
  Inv X pins σ H' {s with heap:=h',gens:=g',drawn:=d',toks:=t'}:=by
 obtain⟨m,⟨o,es,ep,ho,r⟩,_⟩:=id I.loc;obtain⟨sl,hL⟩:=u.any ho I.free λz=>(hch _ z).2.1 rfl
 exact I.step (ch:=ch) hch (λb o hL hb hc e n=>u.keep b o e n (λz=>(A0D.mp (I.stkSub b z)).elim hL hb) hc) (λb o _ _ hc e n=>u.any e n hc) (λb o hc e n=>u.free b o e n hc) (λb o hc e=>u.there b o e hc) u.tups u.frzs u.tbls (λm' hm=>by obtain⟨o',es',ep',ho',r'⟩:=hm;rw[ho] at ho';cases ho';exact⟨_,es',ep',hL,r'⟩) hok hg
theorem Inv.turned {t':Nat}{it:Addr}(I:Inv X pins σ H s)(k:∀ b o,b≠it->s.heap.get? b=some o->h'.get? b=some o)(hn:H it=none)(hL:it≠X.env.locals)
  (h1:it∈X.ex\/X.s₀.heap.objs.size<=it) (h2:∀ x c,X.env.cells.lookup x=some c->c≠it) (h3:∀ p∈X.pn++pins,p.1≠it):Inv X pins σ H {s with heap:=h',toks:=t'}:=by
 have nit:∀ b u,H b=some u->b≠it:=λb u e z=>by rw[z,hn] at e;cases e
 refine I.step (g':=s.gens) (d':=s.drawn) (ch:=[it]) (λb hb=>?_) (λb o _ _ hc e _=>k b o (λz=>hc (by simp[z])) e) (λb o _ _ hc e _=>⟨o.slots,k b o (λz=>hc (by simp[z])) e⟩) (λ_ _ _ _ n=>n)
  (λb o hc e=>⟨o,k b o (λz=>hc (by simp[z])) e⟩) (λ_ _ e=>e) (λ_ _ _ e=>e) (λb ps e=>⟨#[],by rw[e];simp⟩) (λm hm=>?_) (λb u e=>?_) I.bare
 . have e:b=it:=by simpa using hb
   subst e;exact⟨h1,hL,h2,h3⟩
 . obtain⟨o,es,ep,ho,r⟩:=hm;exact⟨o,es,ep,k _ o (Ne.symm hL) ho,r⟩
 refine(I.hok b u e).stay (λc v hc q=>k c v ?_ q) (λ_ q=>q) λ_ _ q=>q;rcases hc with z|z
 . rw[z];exact nit b u e
 exact nit c _ z
theorem Inv.tok (I:Inv X pins σ H s)(t:Nat):Inv X pins σ H {s with toks:=t}:=I.un (h':=s.heap) (t':=t) Un.refl I.hok
theorem Inv.kept {t':Nat}(I:Inv X pins σ H s)(k:∀ b u,s.heap.get? b=some u->h'.get? b=some u):Inv X pins σ H {s with heap:=h',toks:=t'}:=I.un (Un.kept k) (I.hok.kept k)
theorem Inv.laid {a:Addr}{o:HO}{t':Nat}(I:Inv X pins σ H s)(k:∀ b u,s.heap.get? b=some u->h'.get? b=some u)(hp:s.heap.objs.size<=a)(new:ObjOk X.prog X.w (upd H a o) h' a o) :
  Inv X pins σ (upd H a o) {s with heap:=h',toks:=t'}:=I.un (Un.laid k hp (I.hok.fresh hp)) (I.hok.laid k hp new)
theorem Inv.write {x e:Addr}{o:HO}{t':Nat}(I:Inv X pins σ H s)(mu:Mut (H x))(he:e=x\/H e=some (.own x))(k:∀ b u,b≠e->s.heap.get? b=some u->h'.get? b=some u)(heo:∃ u,h'.get? e=some u)
  (new:ObjOk X.prog X.w (upd H x o) h' x o):Inv X pins σ (upd H x o) {s with heap:=h',toks:=t'}:=I.un (Un.write mu he k heo) (I.hok.write mu he k heo new)
theorem Inv.weak {σ':List (Option V)}(I:Inv X pins σ H s)(hl:σ'.length=σ.length)(w:∀(i:Nat) v,σ'[i]? = some (some v)->σ[i]? = some (some v)):Inv X pins σ' H s:=
 ⟨I.ok,I.os,I.bare,I.base,let ⟨m,hn,hl'⟩:=I.loc;⟨m,hn,λi x v e1 e2 e3=>hl' i x v e1 (w i v e2) e3⟩,I.cell,I.free,I.freeC,I.pin,I.hok,hl.trans I.len⟩
theorem Inv.pins_of {pins':List (Addr×Obj)}(I:Inv X pins σ H s)(h:∀ p∈pins',s.heap.get? p.1=some p.2/\H p.1=none/\p.1≠X.env.locals/\p.1∉X.fs/\∀ v,p.2.data ≠ .cell v):Inv X pins' σ H s:=
 ⟨I.ok,I.os,I.bare,I.base,I.loc,I.cell,I.free,I.freeC,λp hp=>(A08.mp hp).elim (λz=>I.pin p (A0M _ z)) (h p),I.hok,I.len⟩
theorem Lk {N:List Str}(hN:N.Nodup){i j:Nat}{x:Str}(a:N[i]? = some x)(b:N[j]? = some x):i=j:=by obtain⟨h1,e1⟩:=A02.mp a;obtain⟨h2,e2⟩:=A02.mp b;exact(A1L hN).mp (e1.trans e2.symm)
theorem Nb {M:Model}{A:Around}{E:Value->Shared->Prop}{i:Nat}{x:Str}{v:V}{u:Value}{Q:Unit->Shared->Prop}(I:Inv X pins σ H s)(hN:X.N.Nodup)(hi:X.N[i]? = some x)(hx:Loc X.env.scope x)(r:RelV v u)
  (h:∀ s',Inv X pins (σ.set i (some v)) H s'->(∃ a,Heap.SameBut a s.heap s'.heap/\(a=X.env.locals\/X.env.cells.lookup x=some a))->Q () s') (hf:X.fn x=true\/X.env.scope.names.lookup x=some .local:=by with_unfolding_all (first | exact .inl rfl | exact .inr rfl | assumption)):wpAny M A (storeName X.env x u) Q E s:=by
 obtain⟨m,hn,hl⟩:=id I.loc;have hcls:(X.env.scope.kind == .class||(X.env.scope.kind == .module&&X.env.locals != X.env.globals))=false:=by rw[I.ok.kind];rfl
 have hiσ:i<σ.length:=by rw[I.len];exact(A02.mp hi).1
 have cne:=I.cne
 have tracked:∀ {a:Addr} {h':Heap},(∃ o,s.heap.get? a=some o/\H a=none)->Heap.SameBut a s.heap h'->HOk X.prog X.w H h':=fun {a h'} ha hs b ob e=>by
  obtain⟨_,_,hfree⟩:=ha;refine(I.hok b ob e).stay (λc w' hc q=>(hs.2 c ?_).trans q) (λ_ q=>q) λ_ _ q=>q;rintro rfl;rcases hc with rfl|hc
  . rw[hfree] at e;cases e
  rw[hfree] at hc;cases hc
 rcases hx with hk|hk
 . refine wpAny_storeName_local hk hn (λh' hn' hs=>?_) hcls;obtain⟨oL,_,_,hoL,_⟩:=id hn;refine h _ ⟨I.ok,I.os,I.bare,⟨λb o e n hb hx=>?_,λb o e n hb hx=>?_,I.base.free,λb o e hx=>?_,I.base.tups,I.base.frzs,I.base.tbls⟩,⟨_,hn',λj y v' e1 e2 e3=>?_⟩,λy c e=>?_,I.free,I.freeC,λp hp=>?_,tracked ⟨oL,hoL,I.free⟩ hs,by simpa using I.len⟩ ⟨_,hs,.inl rfl⟩
   . exact(hs.2 b (A0O (A0V (A07 e) I.ok.above))).trans (I.base.keep b o e n hb hx)
   . obtain⟨sl,e1⟩:=I.base.slot b o e n hb hx;exact⟨sl,(hs.2 b (A0O (A0V (A07 e) I.ok.above))).trans e1⟩
   . obtain⟨o',e1⟩:=I.base.there b o e hx;exact⟨o',(hs.2 b (A0O (A0V (A07 e) I.ok.above))).trans e1⟩
   . by_cases hj:j=i
     . subst hj;rw[hi] at e1;cases e1;rw[A2M hiσ] at e2
       cases e2;exact⟨u,r,.inl ⟨hk,by simp⟩⟩
     rw[A1R (Ne.symm hj)] at e2;obtain⟨u',r',q⟩:=hl j y v' e1 e2 e3;refine⟨u',r',?_⟩;rcases q with ⟨k,e⟩|⟨k,c,e,z⟩
     . refine .inl ⟨k,?_⟩;have:y≠x:=λe=>hj (Lk hN e1 (e ▸ hi));simp[this,e]
     exact .inr ⟨k,c,e,z.sameBut hs (cne y c e)⟩
   . obtain⟨w',z⟩:=I.cell y c e;exact⟨w',z.sameBut hs (cne y c e)⟩
   obtain⟨e,n,ne,nf,d⟩:=I.pin p hp;exact⟨(hs.2 p.1 ne).trans e,n,ne,nf,d⟩
 have hfn:X.fn x=true:=by
  rcases hf with z|z
  . exact z
  rw[z] at hk;cases hk
 obtain⟨c,hc⟩:=I.ok.has x (.inl hk);obtain⟨w',z⟩:=I.cell x c hc;refine wpAny_storeName_cell I.ok.kind hk hc z (λh' hc' hs=>?_);obtain⟨oc,hoc,hocd⟩:=id z;refine h {s with heap:=h'} ⟨I.ok,I.os,I.bare,⟨λb o e n hb hx=>?_,λb o e n hb hx=>?_,I.base.free,λb o e hx=>?_,I.base.tups,I.base.frzs,I.base.tbls⟩,⟨m,hn.sameBut hs (Ne.symm (cne x c hc)),λj y v' e1 e2 e3=>?_⟩,λy c' e=>?_,I.free,I.freeC,λp hp=>?_,tracked ⟨oc,hoc,I.freeC x c hc⟩ hs,by simpa using I.len⟩ ⟨c,hs,.inr hc⟩
 . exact(hs.2 b (A0O (A0V (A07 e) (I.ok.cab x c hfn hc)))).trans (I.base.keep b o e n hb hx)
 . obtain⟨sl,e1⟩:=I.base.slot b o e n hb hx;exact⟨sl,(hs.2 b (A0O (A0V (A07 e) (I.ok.cab x c hfn hc)))).trans e1⟩
 . obtain⟨o',e1⟩:=I.base.there b o e hx;exact⟨o',(hs.2 b (A0O (A0V (A07 e) (I.ok.cab x c hfn hc)))).trans e1⟩
 . by_cases hj:j=i
   . subst hj;rw[hi] at e1;cases e1;rw[A2M hiσ] at e2
     cases e2;exact⟨u,r,.inr ⟨.inl hk,c,hc,hc'⟩⟩
   rw[A1R (Ne.symm hj)] at e2;obtain⟨u',r',q⟩:=hl j y v' e1 e2 e3;refine⟨u',r',?_⟩;rcases q with q|⟨k,c',e,z'⟩
   . exact .inl q
   refine .inr ⟨k,c',e,z'.sameBut hs ?_⟩;rintro rfl;exact hj (Lk hN e1 (I.ok.inj _ _ _ e hc ▸ hi))
 . by_cases hcc:c'=c
   . subst hcc;exact⟨_,hc'⟩
   obtain⟨w2,z2⟩:=I.cell y c' e;exact⟨w2,z2.sameBut hs hcc⟩
 obtain⟨e,n,ne,nf,d⟩:=I.pin p hp;refine⟨(hs.2 p.1 ?_).trans e,n,ne,nf,d⟩;intro q;rw[q,hoc] at e;have q':oc=p.2:=A0X e;exact d w' (by rw[<- q'];exact hocd)
theorem Ie {M:Model}{A:Around}{E:Value->Shared->Prop}{i:Nat}{x:Str}{v:V}{u:Value}{Q:Unit->Shared->Prop}(I:Inv X pins σ H s)(hN:X.N.Nodup)(hi:X.N[i]? = some x)(hx:Loc X.env.scope x)(r:RelV v u)
  (h:∀ s',Inv X pins (σ.set i (some v)) H s'->Q () s') (hf:X.fn x=true\/X.env.scope.names.lookup x=some .local:=by with_unfolding_all (first | exact .inl rfl | exact .inr rfl | assumption)):wpAny M A (storeName X.env x u) Q E s:=
 Nb I hN hi hx r (λs' I' _=>h s' I') hf
theorem Inv.call' {s':Shared}{ch:List Addr}(I:Inv X pins σ H s)(ho:s'.os=s.os)(u:Un (frs X.stack) ch H H' s.heap s'.heap)(hok:HOk X.prog X.w H' s'.heap)(hg:AllBare s'.gens)
  (hch:∀ b∈ch,(b∈X.ex\/X.s₀.heap.objs.size<=b)/\b≠X.env.locals/\(∀ x c,X.env.cells.lookup x=some c->c≠b)/\∀ p∈X.pn++pins,p.1≠b):Inv X pins σ H' s':=by
 obtain⟨h',g',d',t',o'⟩:=s';have e:o'=s.os:=ho;subst e;exact I.call (g':=g') (t':=t') (d':=d') u hok hg hch
end
abbrev XK:=Value->Option Addr->Hp->Prop
abbrev St:=List (Option V)
abbrev VK:=V->Hp->Prop
abbrev TE:=St->Hp->VK->Prop
abbrev TT:=St->Hp->(Bool->Hp->Prop)->Prop
abbrev TA:=St->Hp->(List V->Hp->Prop)->Prop
structure Ends where
 nx:St->Hp->Prop
 rt:VK
 bk:St->Hp->Prop:=λ_ _=>False
 ct:St->Hp->Prop:=λ_ _=>False
abbrev TS:=Ends->St->Hp->Prop
def EP (X:Cx)(pins:List (Addr×Obj))(σ:St)(Q:VK)(u:Value)(s':Shared):Prop:=∃ v H',Inv X pins σ H' s'/\RelV v u/\Q v H'
def TP (X:Cx)(pins:List (Addr×Obj))(σ:St)(Q:Bool->Hp->Prop)(b:Bool)(s':Shared):Prop:=∃ H',Inv X pins σ H' s'/\Q b H'
def AP (X:Cx)(pins:List (Addr×Obj))(σ:St)(Q:List V->Hp->Prop)(us:List Value)(s':Shared):Prop:=∃ vs H',Inv X pins σ H' s'/\Vals vs us/\Q vs H'
def SP (X:Cx)(pins:List (Addr×Obj))(D:Ends)(f:Flow)(s':Shared):Prop:=
 match f with
 |.next=>∃ σ' H',Inv X pins σ' H' s'/\D.nx σ' H'
 |.brk=>∃ σ' H',Inv X pins σ' H' s'/\D.bk σ' H'
 |.cont=>∃ σ' H',Inv X pins σ' H' s'/\D.ct σ' H'
 |.ret u=>∃ v σ' H',Inv X pins σ' H' s'/\RelV v u/\D.rt v H'
def PE (X:Cx)(e:Expr)(t:TE):Prop:=
 ∀(pins:List (Addr×Obj)) (s:Shared) (σ:St) (H:Hp) (Q:VK),Inv X pins σ H s->t σ H Q->wpAny (model X.prog X.w) X.A (eval e X.env) (EP X pins σ Q) X.xe s
def PT (X:Cx)(e:Expr)(t:TT):Prop:=
 ∀(pins:List (Addr×Obj)) (s:Shared) (σ:St) (H:Hp) (Q:Bool->Hp->Prop),Inv X pins σ H s->t σ H Q->wpAny (model X.prog X.w) X.A (isTrue e X.env (eval e X.env)) (TP X pins σ Q) X.xe s
def PW (X:Cx)(e:Expr)(t:TT):Prop:=
 ∀(whole:Sem Value) (pins:List (Addr×Obj)) (s:Shared) (σ:St) (H:Hp) (Q:Bool->Hp->Prop),Inv X pins σ H s->t σ H Q->wpAny (model X.prog X.w) X.A (isTrue e X.env whole) (TP X pins σ Q) X.xe s
theorem PW.pt {X:Cx}{e:Expr}{t:TT}(h:PW X e t):PT X e t:=h _
def PA (X:Cx)(es:List Expr)(t:TA):Prop:=
 ∀(pos:Pos) (pins:List (Addr×Obj)) (s:Shared) (σ:St) (H:Hp) (Q:List V->Hp->Prop),Inv X pins σ H s->t σ H Q->wpAny (model X.prog X.w) X.A (spliced (backTo pos (starEach es X.env))) (AP X pins σ Q) X.xe s
def PS (X:Cx)(st:Stmt)(t:TS):Prop:=
 ∀(pins:List (Addr×Obj)) (s:Shared) (σ:St) (H:Hp) (D:Ends),Inv X pins σ H s->t D σ H->wpAny (model X.prog X.w) X.A (exec st X.env) (SP X pins D) X.xe s
def PSs (X:Cx)(st:List Stmt)(t:TS):Prop:=
 ∀(pins:List (Addr×Obj)) (s:Shared) (σ:St) (H:Hp) (D:Ends),Inv X pins σ H s->t D σ H->wpAny (model X.prog X.w) X.A (execs st X.env) (SP X pins D) X.xe s
theorem thn {α:Type}{t:Sem α}{Q Q':α->Shared->Prop}{M:Model}{A:Around}{E:Value->Shared->Prop}{s:Shared}(h:wpAny M A t Q E s)(hQ:∀ a s,Q a s->Q' a s):wpAny M A t Q' E s:=A1X h hQ λ_ _ x=>x
section
variable {X:Cx}
def ap2 (i:Nat):TE:=fun σ H Q=>∃ v,σ[i]? = some (some v)/\Q v H
def tC (v:V):TE:=λ_ H Q=>Q v H
theorem ab0 {i:Nat}{x:Str}{pos:Pos}(hN:X.N[i]? = some x)(hv:Vis X.env.scope x)(hd:(x==("__debug__":Str))=false:=by decide)(hcd:(x==("__classdict__":Str))=false:=by decide):PE X (.Name x pos) (ap2 i):=by
 intro pins s σ H Q I h;obtain⟨v,e,h⟩:=h;obtain⟨m,hn,hl⟩:=I.loc;obtain⟨u,r,l⟩:=hl i x v hN e hv;have fin:EP X pins σ Q u s:=⟨v,H,I,r,h⟩;rcases l with ⟨hk,hm⟩|⟨hk,c,hc,hcell⟩
 . exact wpAny_Name (wpAny_loadName_local I.ok.kind hk hn hm fin) hd
 rcases hk with hk|hk
 . exact wpAny_Name (wpAny_loadName_cell I.ok.kind hk hc hcell fin) hd
 exact wpAny_Name (wpAny_loadName_free I.ok.kind hk hc hcell fin hcd) hd
theorem A3 {i j pos}:PE X (.Constant (.int i) j pos) (tC (.int i)):=λ_ _ _ H _ I h=>wpAny_Constant_int ⟨.int i,H,I.tok _,⟨_,rfl⟩,h⟩
theorem Fi {b j pos}:PE X (.Constant (.bool b) j pos) (tC (.bl b)):=λ_ _ _ H _ I h=>Constant_bool ⟨.bl b,H,I,rfl,h⟩
theorem Cs {j pos}:PE X (.Constant .none j pos) (tC .non):=λ_ _ _ H _ I h=>Constant_none ⟨.non,H,I,rfl,h⟩
theorem A7 {x j pos}:PE X (.Constant (.str x) j pos) (tC (.str x)):=λ_ _ _ H _ I h=>Calls.Constant_str ⟨.str x,H,I.tok _,⟨_,rfl⟩,h⟩
def Gl (X:Cx)(x:Str):Prop:=X.env.kindOf x=some .globalImplicit
theorem L3 {E:Value->Shared->Prop}{pins:List (Addr×Obj)}{s:Shared}{σ:St}{H:Hp}{x:Str}{u:Value}{pos:Pos}{Q:Value->Shared->Prop}(I:Inv X pins σ H s)(hg:Gl X x)(hm:X.mg x=some u)(h:Q u s)
  (hd:(x==("__debug__":Str))=false:=by decide):wpAny (model X.prog X.w) X.A (eval (.Name x pos) X.env) Q E s:=
 Calls.Name_function_global I.ok.kind hg (Calls.loadGlobal_global (by rw[I.ok.glob];exact I.mod.glob.keeps I.bk) hm h) hd
theorem Hr {E:Value->Shared->Prop}{pins:List (Addr×Obj)}{s:Shared}{σ:St}{H:Hp}{x:Str}{u:Value}{pos:Pos}{Q:Value->Shared->Prop}(I:Inv X pins σ H s)(hg:Gl X x)(hm:X.mg x=none)(hv:bootBuiltins x=some u)(h:Q u s)
  (hn:x ≠ "__name__":=by decide) (hd:(x==("__debug__":Str))=false:=by decide):wpAny (model X.prog X.w) X.A (eval (.Name x pos) X.env) Q E s:=by
 obtain⟨mb,h1,h2⟩:=I.mod.blt;exact Calls.Name_function_global I.ok.kind hg (Calls.loadGlobal_builtin (by rw[I.ok.glob];exact I.mod.glob.keeps I.bk) hm (by rw[I.ok.blt];exact h1.keeps I.bk) ((h2 x hn).trans hv) h) hd
theorem a30 {x:Str}{v:V}{u:Value}{pos:Pos}(hg:Gl X x)(hm:X.mg x=some u)(r:RelV v u)(hd:(x==("__debug__":Str))=false:=by decide):PE X (.Name x pos) (tC v):=
 λ_ _ _ H _ I h=>L3 I hg hm ⟨v,H,I,r,h⟩ hd
theorem Bq {x:Str}{v:V}{u:Value}{pos:Pos}(hg:Gl X x)(hm:X.mg x=none)(hv:bootBuiltins x=some u)(r:RelV v u)(hn:x ≠ "__name__":=by decide)(hd:(x==("__debug__":Str))=false:=by decide):PE X (.Name x pos) (tC v):=
 λ_ _ _ H _ I h=>Hr I hg hm hv ⟨v,H,I,r,h⟩ hn hd
variable {a b:Expr}{ta tb:TE}{pos:Pos}
def tB (t:TE):TT:=fun σ H Q=>t σ H λx H1=>∃ c,x = .bl c/\Q c H1
theorem Bt {e:Expr}{t:TE}(h:PE X e t)(he:∀ whole,isTrue e X.env whole=(do let v <- whole;standAt e.pos;holding [v] (truthy v)):=by intro _;ac_nf):PT X e (tB t):=by
 intro pins s σ H Q I hw;refine isTrue_plain (thn (h pins s σ H _ I hw) λv s1 ⟨x,H1,I1,r1,q1⟩=>?_) (he _);obtain⟨d,rfl,q⟩:=q1
 cases r1;exact A1N ⟨H1,I1,q⟩
variable {tA tB':TT}{rest:List Expr}
def as1 (t u:TT):TT:=fun σ H Q=>t σ H λc H1=>if c=true then u σ H1 Q else Q false H1
def tOr (t u:TT):TT:=fun σ H Q=>t σ H λc H1=>if c=true then Q true H1 else u σ H1 Q
def as9 (t:TT):TT:=fun σ H Q=>t σ H λc H1=>Q (!c) H1
theorem Oq (ha:PT X a tA):PW X (.BoolOp .And [a] pos) tA:=by
 intro wh pins s σ H Q I h;refine isTrue_and (thn (ha pins s σ H Q I h) λc s1 e=>?_)
 cases c with
 |true=>exact isTrue_and_nil e
 |false=>exact e
theorem Fx (ha:PT X a tA):PW X (.BoolOp .Or [a] pos) tA:=by
 intro wh pins s σ H Q I h;refine isTrue_or (thn (ha pins s σ H Q I h) λc s1 e=>?_)
 cases c with
 |false=>exact isTrue_or_nil e
 |true=>exact e
theorem My (ha:PT X a tA)(hb:PW X (.BoolOp .And (b :: rest) pos) tB'):PW X (.BoolOp .And (a :: b :: rest) pos) (as1 tA tB'):=by
 intro wh pins s σ H Q I h;refine isTrue_and (thn (ha pins s σ H _ I h) λc s1 ⟨H1,I1,q1⟩=>?_)
 cases c with
 |true=>exact hb wh pins s1 σ H1 Q I1 q1
 |false=>exact⟨H1,I1,q1⟩
theorem Ka (ha:PT X a tA)(hb:PW X (.BoolOp .Or (b :: rest) pos) tB'):PW X (.BoolOp .Or (a :: b :: rest) pos) (tOr tA tB'):=by
 intro wh pins s σ H Q I h;refine isTrue_or (thn (ha pins s σ H _ I h) λc s1 ⟨H1,I1,q1⟩=>?_)
 cases c with
 |true=>exact⟨H1,I1,q1⟩
 |false=>exact hb wh pins s1 σ H1 Q I1 q1
theorem D4 (ha:PT X a tA):PT X (.UnaryOp .Not a pos) (as9 tA):=by intro pins s σ H Q I h;exact isTrue_not (ha pins s σ H (λc H1=>Q (!c) H1) I h)
def ai3 (ta tb:TE):TE:=fun σ H Q=>ta σ H λx H1=>∃ c,x = .bl c/\if c=true then tb σ H1 Q else Q (.bl false) H1
def as5 (ta tb:TE):TE:=fun σ H Q=>ta σ H λx H1=>∃ c,x = .bl c/\if c=true then Q (.bl true) H1 else tb σ H1 Q
def ac3 (ta:TE):TE:=fun σ H Q=>ta σ H λx H1=>∃ c,x = .bl c/\Q (.bl (!c)) H1
theorem Cy {op}{t:TE}(h:PE X a t):PE X (.BoolOp op [a] pos) t:=λpins s σ H Q I hw=>BoolOp_one (h pins s σ H Q I hw)
theorem Cm (ha:PE X a ta)(hb:PE X (.BoolOp .And (b :: rest) pos) tb):PE X (.BoolOp .And (a :: b :: rest) pos) (ai3 ta tb):=by
 intro pins s σ H Q I h;refine BoolOp_and (thn (ha pins s σ H _ I h) λv s1 ⟨x,H1,I1,r1,q1⟩=>?_);obtain⟨c,rfl,q1⟩:=q1
 cases r1;refine A1N ?_
 cases c with
 |true=>exact hb pins s1 σ H1 Q I1 q1
 |false=>exact⟨.bl false,H1,I1,rfl,q1⟩
theorem ai2 (ha:PE X a ta)(hb:PE X (.BoolOp .Or (b :: rest) pos) tb):PE X (.BoolOp .Or (a :: b :: rest) pos) (as5 ta tb):=by
 intro pins s σ H Q I h;refine BoolOp_or (thn (ha pins s σ H _ I h) λv s1 ⟨x,H1,I1,r1,q1⟩=>?_);obtain⟨c,rfl,q1⟩:=q1
 cases r1;refine A1N ?_
 cases c with
 |false=>exact hb pins s1 σ H1 Q I1 q1
 |true=>exact⟨.bl true,H1,I1,rfl,q1⟩
theorem ag8 (ha:PE X a ta):PE X (.UnaryOp .Not a pos) (ac3 ta):=by
 intro pins s σ H Q I h;refine UnaryOp_ (thn (ha pins s σ H _ I h) λv s1 ⟨x,H1,I1,r1,q1⟩=>?_);obtain⟨c,rfl,q1⟩:=q1
 cases r1;exact not_of (A1N ⟨.bl (!c),H1,I1,rfl,q1⟩)
def tIf (t:TT)(ta tb:TE):TE:=fun σ H Q=>t σ H λc H1=>if c=true then ta σ H1 Q else tb σ H1 Q
theorem L4 {c:Expr}(hc:PT X c tA)(ha:PE X a ta)(hb:PE X b tb):PE X (.IfExp c a b pos) (tIf tA ta tb):=by
 intro pins s σ H Q I h;refine wpAny_IfExp (thn (hc pins s σ H _ I h) λd s1 ⟨H1,I1,q1⟩=>?_)
 cases d with
 |true=>exact ha pins s1 σ H1 Q I1 q1
 |false=>exact hb pins s1 σ H1 Q I1 q1
end
def SqL (K:W.Frag)(H:Hp)(a:Addr)(xs:List V):Prop:=
 Rd H a (.lst xs) \/
  ∃(o:Obj) (its:Array Value) (n:Nat),K.lookup a=some o/\o.cls = .type "list" /\ o.dict=none/\o.data = .seq its n/\its.size<=sizeLine/\Vals xs its.toList
def SqT (K:W.Frag)(H:Hp)(a:Addr)(xs:List V):Prop:=
 Rd H a (.tup xs) \/
  ∃(o:Obj) (its:Array Value) (n:Nat),K.lookup a=some o/\o.cls = .type "tuple" /\ o.data = .seq its n/\its.size<=sizeLine/\Vals xs its.toList/\o.dict=none
def absV:Value->Option V
 |.none=>some .non
 |.bool b=>some (.bl b)
 |.int i _=>some (.int i)
 |.str x _=>some (.str x)
 |.bytes b _=>some (.byt b)
 |.float b _=>some (.flt b)
 |.ref a=>some (.ref a)
 |.type n=>some (.ty n)
 |_=>none
theorem RelV.abs {x:V}{u:Value}(r:RelV x u):absV u=some x:=by
 cases x with
 |non=>cases r;rfl
 |bl _=>cases r;rfl
 |int _=>obtain⟨t,rfl⟩:=r;rfl
 |str _=>obtain⟨t,rfl⟩:=r;rfl
 |byt _=>obtain⟨t,rfl⟩:=r;rfl
 |flt _=>obtain⟨t,rfl⟩:=r;rfl
 |ref _=>cases r;rfl
 |ty _=>cases r;rfl
theorem RelV.inj {x y:V}{u:Value}(r:RelV x u)(q:RelV y u):x=y:=A0X (r.abs.symm.trans q.abs)
theorem Vals.inj:∀ {xs ys:List V} {us:List Value},Vals xs us->Vals ys us->xs=ys
 |_,_,_,.nil,.nil=>rfl
 |_,_,_,.cons r t,.cons r' t'=>by rw[r.inj r',Vals.inj t t']
section
variable {X:Cx}{pins:List (Addr×Obj)}{σ:St}{H:Hp}{s:Shared}{a:Addr}{xs ys:List V}
theorem SqL.of {K:W.Frag}(h:H a=some (.lst xs)):SqL K H a xs:=.inl (.inl h)
theorem SqT.of {K:W.Frag}(h:H a=some (.tup xs)):SqT K H a xs:=.inl (.inl h)
theorem Inv.list (I:Inv X pins σ H s)(h:SqL X.K H a xs):∃ its:List Value,Vals xs its/\PlainL s.heap a its.toArray/\xs.length<=sizeLine:=by
 rcases h with h|⟨o,its,n,hk,hc,hd,hs,hz,r⟩
 . obtain⟨z,its,n,r,e⟩:=h.ok I.hok;exact⟨its,r,⟨_,n,e,rfl,rfl,rfl⟩,z⟩
 refine⟨its.toList,r,⟨o,n,I.kIn a o hk,hc,hd,by simpa using hs⟩,?_⟩;have e:=r.length;simp only[Array.length_toList] at e;omega
theorem Inv.tuple (I:Inv X pins σ H s)(h:SqT X.K H a xs):∃ its:List Value,Vals xs its/\IsTup s.heap a its.toArray/\xs.length<=sizeLine:=by
 rcases h with h|⟨o,its,n,hk,hc,hs,hz,r,hn⟩
 . obtain⟨z,its,r,p⟩:=h.ok I.hok;exact⟨its,r,p.tup,z⟩
 refine⟨its.toList,r,⟨o,I.kIn a o hk,hc,n,by simpa using hs⟩,?_⟩;have e:=r.length;simp only[Array.length_toList] at e;omega
theorem Inv.list_inj (I:Inv X pins σ H s)(h:SqL X.K H a xs)(h':SqL X.K H a ys):xs=ys:=by
 obtain⟨its,r,⟨o,n,e,_,_,d⟩,_⟩:=I.list h;obtain⟨its',r',⟨o',n',e',_,_,d'⟩,_⟩:=I.list h';rw[e] at e';cases e';rw[d] at d';injection d' with d1 _;have:its=its':=by simpa using congrArg Array.toList d1
 subst this;exact r.inj r'
theorem Inv.tuple_inj (I:Inv X pins σ H s)(h:SqT X.K H a xs)(h':SqT X.K H a ys):xs=ys:=by
 obtain⟨its,r,⟨o,e,_,n,d⟩,_⟩:=I.tuple h;obtain⟨its',r',⟨o',e',_,n',d'⟩,_⟩:=I.tuple h';rw[e] at e';cases e';rw[d] at d';injection d' with d1 _;have:its=its':=by simpa using congrArg Array.toList d1
 subst this;exact r.inj r'
end
abbrev Cx.wish (X:Cx)(E:Value->Shared->Prop):Cx:={X with xe:=E}
abbrev Cx.nox (X:Cx):Cx:=X.wish λ_ _=>False
theorem Cx.Ok.wish {X:Cx}(ok:X.Ok)(E:Value->Shared->Prop):(X.wish E).Ok:=
 ⟨ok.mod,ok.kind,ok.glob,ok.blt,ok.above,ok.inj,ok.has,ok.cab,ok.hd,ok.frames,ok.stk,ok.exf,ok.bs,ok.bsz,ok.noex,ok.exfs,ok.funs,ok.frf⟩
theorem Cx.Ok.unwish {X:Cx}{E:Value->Shared->Prop}(ok:(X.wish E).Ok):X.Ok:=
 ⟨ok.mod,ok.kind,ok.glob,ok.blt,ok.above,ok.inj,ok.has,ok.cab,ok.hd,ok.frames,ok.stk,ok.exf,ok.bs,ok.bsz,ok.noex,ok.exfs,ok.funs,ok.frf⟩
section
variable {X:Cx}{pins:List (Addr×Obj)}{σ:St}{H:Hp}{s:Shared}{E:Value->Shared->Prop}
theorem Inv.wish (I:Inv X pins σ H s)(E:Value->Shared->Prop):Inv (X.wish E) pins σ H s:=⟨I.ok.wish E,I.os,I.bare,I.base,I.loc,I.cell,I.free,I.freeC,I.pin,I.hok,I.len⟩
theorem Inv.unwish (I:Inv (X.wish E) pins σ H s):Inv X pins σ H s:=⟨I.ok.unwish,I.os,I.bare,I.base,I.loc,I.cell,I.free,I.freeC,I.pin,I.hok,I.len⟩
theorem SP.unwish {D:Ends}{f:Flow}{s':Shared}(h:SP (X.wish E) pins D f s'):SP X pins D f s':=by
 cases f with
 |next=>obtain⟨σ',H',I,q⟩:=h;exact⟨σ',H',I.unwish,q⟩
 |brk=>obtain⟨σ',H',I,q⟩:=h;exact⟨σ',H',I.unwish,q⟩
 |cont=>obtain⟨σ',H',I,q⟩:=h;exact⟨σ',H',I.unwish,q⟩
 |ret u=>obtain⟨v,σ',H',I,r,q⟩:=h;exact⟨v,σ',H',I.unwish,r,q⟩
theorem PE.nox {e:Expr}{t:TE}(h:PE X.nox e t):PE X e t:=λpins s σ H Q I hw=>A1X (h pins s σ H Q (I.wish _) hw) (λ_ _ ⟨v,H',I',r,q⟩=>⟨v,H',I'.unwish,r,q⟩) λ_ _ z=>False.elim z
theorem PT.nox {e:Expr}{t:TT}(h:PT X.nox e t):PT X e t:=λpins s σ H Q I hw=>A1X (h pins s σ H Q (I.wish _) hw) (λ_ _ ⟨H',I',q⟩=>⟨H',I'.unwish,q⟩) λ_ _ z=>False.elim z
theorem PSs.nox {st:List Stmt}{t:TS}(h:PSs X.nox st t):PSs X st t:=λpins s σ H D I hw=>A1X (h pins s σ H D (I.wish _) hw) (λ_ _ q=>q.unwish) λ_ _ z=>False.elim z
end
section
variable {X:Cx}{st:Stmt}{rest:List Stmt}{t u:TS}{e:Expr}{te:TE}{pos:Pos}
def ab7:TS:=λD σ H=>D.nx σ H
def a75 (t u:TS):TS:=λD σ H=>t {D with nx:=u D} σ H
theorem Ac:PSs X [] ab7:=λ_ _ σ H _ I h=>wpAny_execs_nil ⟨σ,H,I,h⟩
theorem A2 (h1:PS X st t) (h2:PSs X rest u):PSs X (st :: rest) (a75 t u):=by
 intro pins s σ H D I h;refine wpAny_execs_cons (thn (h1 pins s σ H {D with nx:=u D} I h) λf s1 q=>?_)
 cases f with
 |next=>obtain⟨σ',H',I',q⟩:=q;exact h2 pins s1 σ' H' D I' q
 |ret v=>exact q
 |brk=>exact q
 |cont=>exact q
theorem A4 (h1:PS X st t):PSs X [st] t:=by
 intro pins s σ H D I h;refine wpAny_execs_cons (thn (h1 pins s σ H D I h) λf s1 q=>?_)
 cases f with
 |next=>exact wpAny_execs_nil q
 |ret v=>exact q
 |brk=>exact q
 |cont=>exact q
theorem Inv.quiet {pins:List (Addr×Obj)}{σ:St}{H:Hp}{s:Shared}(I:Inv X pins σ H s):interactive X.env=false:=by simp[interactive,I.ok.kind]
def Vv (te:TE):TS:=λD σ H=>te σ H λ_ H1=>D.nx σ H1
theorem Jj (he:PE X e te)(hs:swapsWith e none pos.line X.env=pure false:=by ac_nf):PS X (.Expr e pos) (Vv te):=by intro pins s σ H D I h;exact wpAny_Expr_any (thn (he pins s σ H _ I h) λv s1 ⟨x,H1,I1,r1,q1⟩=>⟨σ,H1,I1,q1⟩) I.quiet hs
def as7 (te:TE):TS:=λD σ H=>te σ H D.rt
theorem Ab (he:PE X e te):PS X (.Return (some e) pos) (as7 te):=by intro pins s σ H D I h;exact wpAny_Return_some (thn (he pins s σ H _ I h) λv s1 ⟨x,H1,I1,r1,q1⟩=>⟨x,σ,H1,I1,r1,q1⟩)
def at1 (c:TT)(t u:TS):TS:=λD σ H=>c σ H λb H1=>if b=true then t D σ H1 else u D σ H1
theorem Ax {c:Expr}{a b:List Stmt}{tc:TT}(hc:PT X c tc)(ha:PSs X a t)(hb:PSs X b u):PS X (.If c a b pos) (at1 tc t u):=by
 intro pins s σ H D I h;refine wpAny_If (thn (hc pins s σ H _ I h) λd s1 ⟨H1,I1,q1⟩=>?_)
 cases d with
 |true=>exact ha pins s1 σ H1 D I1 q1
 |false=>exact hb pins s1 σ H1 D I1 q1
end
abbrev TG:=V->St->Hp->(St->Hp->Prop)->Prop
abbrev TGs:=List V->St->Hp->(St->Hp->Prop)->Prop
def PG (X:Cx)(target:Expr)(t:TG):Prop:=
 ∀(pins:List (Addr×Obj)) (s:Shared) (σ:St) (H:Hp) (v:V) (u:Value) (Q:St->Hp->Prop),Inv X pins σ H s->RelV v u->t v σ H Q ->
  wpAny (model X.prog X.w) X.A (assign target X.env u) (λ_ s'=>∃ σ' H',Inv X pins σ' H' s'/\Q σ' H') X.xe s
def PGs (X:Cx)(ts:List Expr)(t:TGs):Prop:=
 ∀(pins:List (Addr×Obj)) (s:Shared) (σ:St) (H:Hp) (vs:List V) (us:List Value) (Q:St->Hp->Prop),Inv X pins σ H s->Vals vs us->t vs σ H Q ->
  wpAny (model X.prog X.w) X.A (assignInOrder ((assignEach ts X.env).map (·.2)) us) (λ_ s'=>∃ σ' H',Inv X pins σ' H' s'/\Q σ' H') X.xe s
section
variable {X:Cx}{pos:Pos}
def Hf (i:Nat):TG:=λv σ H Q=>Q (σ.set i (some v)) H
theorem Aq {i:Nat}{x:Str}(hN:X.N.Nodup)(hi:X.N[i]? = some x)(hx:Loc X.env.scope x)(hf:X.fn x=true\/X.env.scope.names.lookup x=some .local:=by with_unfolding_all (first | exact .inl rfl | exact .inr rfl | assumption)):PG X (.Name x pos) (Hf i):=by intro pins s σ H v u Q I r h;exact wpAny_assign_Name (Ie I hN hi hx r (λs' I'=>⟨_,H,I',h⟩) hf)
def ah4:TGs:=λvs σ H Q=>vs=[]/\Q σ H
def O1 (t:TG)(u:TGs):TGs:=λvs σ H Q=>∃ v r,vs=v :: r/\t v σ H fun σ' H'=>u r σ' H' Q
theorem Go:PGs X [] ah4:=by
 intro pins s σ H vs us Q I r h;obtain⟨e,h⟩:=h;subst e
 cases r;exact assignInOrder_nil ⟨σ,H,I,h⟩
theorem Bw {e:Expr}{es:List Expr}{t:TG}{u:TGs}(h1:PG X e t)(h2:PGs X es u)
  (hs:(assignEach (e :: es) X.env).map (·.2)=assign e X.env :: (assignEach es X.env).map (·.2):=by ac_nf):PGs X (e :: es) (O1 t u):=by
 intro pins s σ H vs us Q I r h;obtain⟨v,vr,e1,h⟩:=h;subst e1
 cases r with
 |cons r rr=>rw[hs];refine assignInOrder_cons (thn (h1 pins s σ H _ _ _ I r h) λ_ s1 ⟨σ1,H1,I1,q1⟩=>?_);exact h2 pins s1 σ1 H1 _ _ Q I1 rr q1
def a73 (K:W.Frag)(n:Nat)(t:TGs):TG:=λv σ H Q=>∃ a xs,v = .ref a/\SqT K H a xs/\xs.length=n/\t xs σ H Q
theorem ag2 {es:List Expr}{k:Nat}{t:TGs}{n:Nat}(hc:X.calm=true)(h:PGs X es t)
  (hn:(assignEach es X.env).length=n:=by ac_nf) (hst:(assignEach es X.env).findIdx? (·.1)=none:=by ac_nf):PG X (.Tuple es k pos) (a73 X.K n t):=by
 intro pins s σ H v u Q I r hw;obtain⟨a,xs,e1,hq,hl,hw⟩:=hw;subst e1
 cases r;obtain⟨its,rv,ht,hz⟩:=I.tuple hq;refine assign_Tuple_tuple (I.ok.hd hc) ht (by simp[hn,<- hl,rv.length]) hst λh' hx=>?_;have I1:Inv X pins σ H {s with heap:=h'}:=I.kept (t':=s.toks) λb o e=>hx b o (A0O (A07 e)) e
 exact h pins _ σ H xs _ Q I1 (by simpa using rv) hw
def a71 (te:TE)(g:TG):TS:=λD σ H=>te σ H λx H1=>g x σ H1 D.nx
theorem Y6 {tg e:Expr}{te:TE}{g:TG}(he:PE X e te)(hg:PG X tg g)(hs:swapsWithSole [tg] e pos.line X.env=pure false:=by ac_nf)(hw:swappedStores [tg] e X.env=pure none:=by ac_nf)
  (h1:(assignEach [tg] X.env).map (·.2)=[assign tg X.env]:=by ac_nf):PS X (.Assign [tg] e pos) (a71 te g):=by
 intro pins s σ H D I h;refine wpAny_Assign_stores (thn (he pins s σ H _ I h) λv s1 ⟨x,H1,I1,r1,q1⟩=>?_) hs hw;rw[h1];exact thn (hg pins s1 σ H1 x v _ I1 r1 q1) λ_ s2 q=>q
theorem Ao {i:Nat}{x:Str}{e:Expr}{te:TE}{pos':Pos}(hN:X.N.Nodup)(hi:X.N[i]? = some x)(hx:Loc X.env.scope x)(he:PE X e te)(hs:swapsWith e (some (.Name x pos')) pos.line X.env=pure false:=by ac_nf)(hf:X.fn x=true\/X.env.scope.names.lookup x=some .local:=by with_unfolding_all (first | exact .inl rfl | exact .inr rfl | assumption)) :
  PS X (.Assign [.Name x pos'] e pos) (a71 te (Hf i)):=by
 intro pins s σ H D I h;refine wpAny_Assign_Name (thn (he pins s σ H _ I h) λv s1 ⟨y,H1,I1,r1,q1⟩=>?_) hs;exact Ie I1 hN hi hx r1 (λs2 I2=>⟨_,H1,I2,q1⟩) hf
end
structure It where
 go:Nat->Hp->Prop
 yld:Nat->Hp->V->Hp->Prop
 stop:Nat->Hp->Prop
def Pn (X:Cx)(pins:List (Addr×Obj))(H:Hp)(b:Addr):Prop:=
 H b=none/\b≠X.env.locals/\b∉X.fs/\(b∈X.ex\/X.s₀.heap.objs.size<=b)/\(∀ x c,X.env.cells.lookup x=some c->c≠b)/\∀ p∈X.pn++pins,p.1≠b
theorem Inv.fpOk {X:Cx}{pins:List (Addr×Obj)}{σ:St}{H H':Hp}{s:Shared}{b:Addr}(I:Inv X pins σ H s)(hb:s.heap.objs.size<=b)(hn:H' b=none):Pn X pins H' b:=by
 refine⟨hn,A2Q (A0V I.lt hb),I.nofs hb,.inr (A0P I.sz hb),λx c e z=>?_,λp hp z=>?_⟩
 . obtain⟨v,q⟩:=I.cell x c e;exact absurd (A0V q.lt (by rw[z];exact hb)) (A25 _)
 exact absurd (A0V (A07 (I.pin p hp).1) (by rw[z];exact hb)) (A25 _)
structure V6 (P:Program)(w:World)(K:W.Frag)(tg:Expr)(J:It)(fp:List Addr)(it:Addr)(tn:Nat->Heap->Prop):Prop where
 mem:it∈fp
 obj:∀ i h,tn i h->∀ b∈fp,∃ o,h.get? b=some o/\∀ v,o.data ≠ .cell v
 keep:∀ i h h',tn i h->(∀ b∈fp,∀ o,h.get? b=some o->h'.get? b=some o)->tn i h'
 item:∀(X:Cx),X.prog=P->X.w=w->X.K=K->X.calm=true->∀(i:Nat) (pins:List (Addr×Obj)) (s:Shared) (σ:St) (H:Hp) (E:Value->Shared->Prop),Inv X pins σ H s->(∀ b∈fp,Pn X pins H b)->tn i s.heap->J.go i H ->
  wpAny (model P w) X.A (pyNext (.ref it)) (λr s1=>∃ u,r=some u /\
   wpAny (model P w) X.A (letOwnedTupleGo tg (.ref it) u) (λ_ s2=>∃ x H',Inv X pins σ H' s2/\RelV x u/\J.yld i H x H'/\tn (i+1) s2.heap/\∀ b∈fp,H' b=none) E s1) E s
 done:∀(X:Cx),X.prog=P->X.w=w->X.K=K->X.calm=true->∀(i:Nat) (pins:List (Addr×Obj)) (s:Shared) (σ:St) (H:Hp) (E:Value->Shared->Prop),Inv X pins σ H s->(∀ b∈fp,Pn X pins H b)->tn i s.heap->J.stop i H ->
  wpAny (model P w) X.A (pyNext (.ref it)) (λr s1=>r=none/\Inv X pins σ H s1) E s
 self:∀(A:Around) (i:Nat) (s:Shared) (Q:Value->Shared->Prop) (E:Value->Shared->Prop),tn i s.heap->Q (.ref it) s->wpAny (model P w) A (pyIter (.ref it)) Q E s
abbrev TI:=St->Hp->(It->Hp->Prop)->Prop
def PIE (X:Cx)(pins:List (Addr×Obj))(σ:St)(tg:Expr)(R:It->Hp->Prop)(itv:Value)(s2:Shared):Prop:=
 ∃(it:Addr) (fp:List Addr) (tn:Nat->Heap->Prop) (J:It) (H':Hp),itv = .ref it/\Inv X pins σ H' s2/\V6 X.prog X.w X.K tg J fp it tn/\tn 0 s2.heap/\(∀ b∈fp,Pn X pins H' b)/\R J H'
def PI (X:Cx)(tg iter:Expr)(wi:TI):Prop:=
 ∀(pins:List (Addr×Obj)) (s:Shared) (σ:St) (H:Hp) (R:It->Hp->Prop),Inv X pins σ H s->wi σ H R ->
  wpAny (model X.prog X.w) X.A (eval iter X.env) (λv s1=>wpAny (model X.prog X.w) X.A (pyIter v) (PIE X pins σ tg R) X.xe s1) X.xe s
theorem Tk {M:Model}{A:Around}{E:Value->Shared->Prop}{s:Shared}{tg:Expr}{it:Addr}{u:Value}{o:Obj}{n:String}{vs:Array Value}{Q:Unit->Shared->Prop}(ho:s.heap.get? it=some o)(hc:o.cls = .type n)(hd:o.data = .fields vs)
  (hn:["enumerate","zip","dict_itemiterator","dict_reverseitemiterator","odict_iterator","itertools.zip_longest","itertools.pairwise"].contains n=false) (hQ:Q () s):wpAny M A (letOwnedTupleGo tg (.ref it) u) Q E s:=by
 unfold letOwnedTupleGo
 cases tg<;>first
  |exact A04 hQ
  | (cases u<;>first
    |exact A04 hQ
    | (refine A00 (wpAny_load ho ?_)
       rw[hc,hd];show wpAny M A (if(["enumerate","zip","dict_itemiterator","dict_reverseitemiterator","odict_iterator","itertools.zip_longest","itertools.pairwise"].contains n&&vs[0]? == some (rawInt _))=true then _ else _) Q E s
       rw[A0L (by intro h;rw[hn,A4Q] at h;cases h)];exact A04 hQ))
def Itl (K:W.Frag)(a:Addr):It:=
 ⟨λi H=>∃ xs x,SqL K H a xs/\xs[i]? = some x,λi H x H'=>H'=H/\∀ xs,SqL K H a xs->xs[i]? = some x,λi H=>∃ xs,SqL K H a xs/\xs.length<=i⟩
def Itt (K:W.Frag)(a:Addr):It:=
 ⟨λi H=>∃ xs x,SqT K H a xs/\xs[i]? = some x,λi H x H'=>H'=H/\∀ xs,SqT K H a xs->xs[i]? = some x,λi H=>∃ xs,SqT K H a xs/\xs.length<=i⟩
def Itr (lo:Int)(n:Nat):It:=⟨λi _=>i<n,λi H x H'=>H'=H/\x = .int (lo+i),λi _=>n<=i⟩
theorem Sn {P:Program}{w:World}{K:W.Frag}{tg:Expr}(a it:Addr):V6 P w K tg (Itl K a) [it] it (λi h=>h.IsListIter it a i) where
 mem:=by simp
 obj:=λi h st b hb=>by
  have e:b=it:=by simpa using hb
  subst e;obtain⟨o,e,c,d⟩:=st;exact⟨o,e,λv z=>by rw[d] at z;cases z⟩
 keep:=λi h h' st k=>st.at λo e=>k it ∅ o e
 item:=by
  intro X hP hw hK hc i pins s σ H E I hf st hg;subst hP hw hK;obtain⟨xs,x,hq,hx⟩:=hg;obtain⟨its,rv,p,hz⟩:=I.list hq;obtain⟨u,hu,ru⟩:=rv.get hx;obtain⟨f0,f1,f2,f3,f4,f5⟩:=hf it ∅;refine wpAny_pyNext_list_item st p.isList (x:=u) (by simpa using hu) λh' st' sb=>?_;have I1:Inv X pins σ H {s with heap:=h'}:=I.turned (t':=s.toks) (λb o hb e=>(sb.2 b hb).trans e) f0 f1 f3 f4 f5
  obtain⟨o,e,c,d⟩:=id st';exact⟨u,rfl,Tk (s:={s with heap:=h'}) e c d nofun ⟨x,H,I1,ru,⟨rfl,λys hy=>by rw[I.list_inj hy hq];exact hx⟩,st',λb hb=>(hf b hb).1⟩⟩
 done:=by intro X hP hw hK hc i pins s σ H E I hf st hg;subst hP hw hK;obtain⟨xs,hq,hx⟩:=hg;obtain⟨its,rv,p,hz⟩:=I.list hq;obtain⟨f0,f1,f2,f3,f4,f5⟩:=hf it ∅;have hl:=rv.length;exact wpAny_pyNext_list_end (I.ok.hd hc) st p.isList (by simp;omega) λh' eb=>⟨rfl,I.turned (t':=s.toks) (λb o hb e=>eb b o hb e) f0 f1 f3 f4 f5⟩
 self:=λ_ _ _ _ _ st h=>wpAny_pyIter_listiter st h
theorem Rb {P:Program}{w:World}{K:W.Frag}{tg:Expr}(a it:Addr):V6 P w K tg (Itt K a) [it] it (λi h=>h.IsTupleIter it a i) where
 mem:=by simp
 obj:=λi h st b hb=>by
  have e:b=it:=by simpa using hb
  subst e;obtain⟨o,e,c,d⟩:=st;exact⟨o,e,λv z=>by rw[d] at z;cases z⟩
 keep:=λi h h' st k=>st.at λo e=>k it ∅ o e
 item:=by
  intro X hP hw hK hc i pins s σ H E I hf st hg;subst hP hw hK;obtain⟨xs,x,hq,hx⟩:=hg;obtain⟨its,rv,p,hz⟩:=I.tuple hq;obtain⟨u,hu,ru⟩:=rv.get hx;obtain⟨f0,f1,f2,f3,f4,f5⟩:=hf it ∅;refine wpAny_pyNext_tuple_item st (show s.heap.IsTuple a its.toArray from p) (x:=u) (by simpa using hu) λh' st' sb=>?_;have I1:Inv X pins σ H {s with heap:=h'}:=I.turned (t':=s.toks) (λb o hb e=>(sb.2 b hb).trans e) f0 f1 f3 f4 f5
  obtain⟨o,e,c,d⟩:=id st';exact⟨u,rfl,Tk (s:={s with heap:=h'}) e c d nofun ⟨x,H,I1,ru,⟨rfl,λys hy=>by rw[I.tuple_inj hy hq];exact hx⟩,st',λb hb=>(hf b hb).1⟩⟩
 done:=by intro X hP hw hK hc i pins s σ H E I hf st hg;subst hP hw hK;obtain⟨xs,hq,hx⟩:=hg;obtain⟨its,rv,p,hz⟩:=I.tuple hq;obtain⟨f0,f1,f2,f3,f4,f5⟩:=hf it ∅;have hl:=rv.length;exact wpAny_pyNext_tuple_end (I.ok.hd hc) st (show s.heap.IsTuple a its.toArray from p) (by simp;omega) λh' eb=>⟨rfl,I.turned (t':=s.toks) (λb o hb e=>eb b o hb e) f0 f1 f3 f4 f5⟩
 self:=λ_ _ _ _ _ st h=>wpAny_pyIter_tupleiter st h
theorem Qi {P:Program}{w:World}{K:PySem.W.Frag}{tg:Expr}(it:Addr)(lo:Int)(n:Nat):V6 P w K tg (Itr lo n) [it] it (λi h=>IsRangeIter h it (lo+(i:Nat)*1) ((n:Int)-(i:Nat)) 1) where
 mem:=by simp
 obj:=λi h st b hb=>by
  have e:b=it:=by simpa using hb
  subst e
  exact⟨_,st,λv z=>by
   have z':Data.fields _=Data.cell v:=z
   cases z'⟩
 keep:=λi h h' st k=>k it ∅ _ st
 item:=by
  intro X hP hw hK hc i pins s σ H E I hf st hg;subst hP hw hK;obtain⟨f0,f1,f2,f3,f4,f5⟩:=hf it ∅;have W:=Walks.range (prog:=X.prog) (w:=X.w) (I.ok.hd hc) it lo 1 n;refine W.item i s _ _ hg st λv h' tk hv st' kk=>?_;obtain⟨t,rfl⟩:=hv;have I1:Inv X pins σ H {s with heap:=h',toks:=tk}:=I.turned (λb o hb e=>kk b o (by simpa using hb) e) f0 f1 f3 f4 f5
  refine⟨_,rfl,Tk (s:={s with heap:=h',toks:=tk}) (n:="range_iterator") st' rfl rfl nofun ⟨.int (lo+i),H,I1,⟨t,?_⟩,⟨rfl,rfl⟩,st',λb hb=>(hf b hb).1⟩⟩
  rw[Int.mul_one]
 done:=by intro X hP hw hK hc i pins s σ H E I hf st hg;subst hP hw hK;obtain⟨f0,f1,f2,f3,f4,f5⟩:=hf it ∅;exact wpAny_pyNext_range_end (I.ok.hd hc) st (by have:n<=i:=hg;omega) λh' eb=>⟨rfl,I.turned (t':=s.toks) (λb o hb e=>eb b o hb e) f0 f1 f3 f4 f5⟩
 self:=λ_ _ _ _ _ st h=>wpAny_pyIter_rangeiter st h
section
variable {X:Cx}{tg:Expr}
theorem Xc {pins:List (Addr×Obj)}{σ:St}{H:Hp}{s:Shared}{R:It->Hp->Prop}{E:Value->Shared->Prop}{lo hi:Int}{t u v:Tok}{tk:Nat}(I:Inv X pins σ H s)(h1:-(2 ^ 62)<=lo)(h2:lo<2 ^ 62)(h3:-(2 ^ 62)<=hi)(h4:hi<2 ^ 62)
  (q:R (Itr lo (hi-lo).toNat) H):wpAny (model X.prog X.w) X.A (pyIter (.ref s.heap.objs.size)) (PIE X pins σ tg R) E {s with heap:=s.heap.push {cls:=.type "range",data:=.fields #[.int lo t,.int hi u,.int 1 v]},toks:=tk}:=by
 refine wpAny_pyIter_range (IsRange.new ..) (small_one h1 h2 h3 h4) ?_;have I1:Inv X pins σ H {s with heap:=s.heap.push {cls:=.type "range",data:=.fields #[.int lo t,.int hi u,.int 1 v]},toks:=tk}:=I.kept λb o e=>A01 _ e
 refine⟨(s.heap.push {cls:=.type "range",data:=.fields #[.int lo t,.int hi u,.int 1 v]}).objs.size,[(s.heap.push {cls:=.type "range",data:=.fields #[.int lo t,.int hi u,.int 1 v]}).objs.size],_,_,H,rfl,
  I1.kept (t':=tk) λb o e=>A01 _ e,Qi _ lo (hi-lo).toNat,?_,λb hb=>?_,q⟩
 . have e1:lo+((0:Nat):Int)*1=lo:=by simp
   have e2:(((hi-lo).toNat:Nat):Int)-((0:Nat):Int)=Builtin.Range.rangeSize lo hi 1:=by rw[rangeSize_one];split<;>omega
   show IsRangeIter _ _ (lo+((0:Nat):Int)*1) ((((hi-lo).toNat:Nat):Int)-((0:Nat):Int)) 1;rw[e1,e2];exact A0E _ rfl
 have e:b=(s.heap.push {cls:=.type "range",data:=.fields #[.int lo t,.int hi u,.int 1 v]}).objs.size:=by simpa using hb
 subst e;exact I1.fpOk (A0A _) (I1.hok.fresh (A0A _))
def a93 (ta:TA):TI:=fun σ H R=>ta σ H λvs H1=>∃ j:Int,vs=[.int j] /\ -(2 ^ 62)<=j/\j<2 ^ 62/\R (Itr 0 j.toNat) H1
def am8 (ta:TA):TI:=fun σ H R=>ta σ H λvs H1=>∃ i j:Int,vs=[.int i,.int j]/\(-(2 ^ 62)<=i/\i<2 ^ 62 /\ -(2 ^ 62)<=j/\j<2 ^ 62)/\R (Itr i (j-i).toNat) H1
theorem Gb {a:Expr}{ta:TA}{p pos:Pos}(hg:Gl X "range")(hm:X.mg "range" = none)(ha:PA X [a] ta)(hs:starEach [a] X.env=[(false,eval a X.env)]:=by ac_nf):PI X tg (.Call (.Name "range" p) [a] [] pos) (a93 ta):=by
 intro pins s σ H R I h;refine Call_ (Hr I hg hm boot_range (A22 (thn (ha pos pins s σ H _ I h) λus s1 ⟨vs,H1,I1,r1,q1⟩=>?_) hs rfl));obtain⟨j,e,q1,q2,q⟩:=q1;subst e
 cases r1 with
 |cons r rr=>cases rr;obtain⟨t,rfl⟩:=r;exact call_range_1 (Xc I1 (by omega) (by omega) q1 q2 (by simpa using q))
def as0 (wi:TI)(g:TG)(tb:TS):TS:=λD σ H=>wi σ H λJ H1=>∃ W:Nat->Nat->St->Hp->Prop,(∃ m,W 0 m σ H1)/\∀ i m σ H,W i m σ H ->
 (J.stop i H/\D.nx σ H)\/(J.go i H/\∃ N:St->Hp->Prop,(∀ σ' H',N σ' H'->∃ m',m'<m/\W (i+1) m' σ' H')/\∀ x H',J.yld i H x H'->g x σ H' fun σ2 H2=>tb {D with nx:=N,ct:=N,bk:=D.nx} σ2 H2)
def O5 (fp:List Addr)(h:Heap):List (Addr×Obj):=fp.filterMap λb=>(h.get? b).map λo=>(b,o)
theorem Ev {fp:List Addr}{h:Heap}{b:Addr}{o:Obj}(hb:b∈fp)(e:h.get? b=some o):(b,o)∈O5 fp h:=A4Y.mpr ⟨b,hb,by rw[e];rfl⟩
theorem Tc {fp:List Addr} {h:Heap} {p:Addr×Obj} (hp:p∈O5 fp h):p.1∈fp/\h.get? p.1=some p.2:=by
 obtain⟨b,hb,e⟩:=A4Y.mp hp
 cases q:h.get? b with
 |none=>rw[q] at e;cases e
 |some o=>rw[q] at e;have e':(b,o)=p:=A0X e;subst e';exact⟨hb,q⟩
theorem Inv.pinned {pins:List (Addr×Obj)}{σ:St}{H:Hp}{s:Shared}{fp:List Addr}(I:Inv X pins σ H s)(hf:∀ b∈fp,Pn X pins H b)(ho:∀ b∈fp,∃ o,s.heap.get? b=some o/\∀ v,o.data ≠ .cell v):Inv X (pins++O5 fp s.heap) σ H s:=
 I.pins_of λp hp=>(A08.mp hp).elim (λz=>I.pin p (A0K _ z)) λz=>by obtain⟨hb,e⟩:=Tc z;obtain⟨f0,f1,f2,_⟩:=hf p.1 hb;obtain⟨o,e',d⟩:=ho p.1 hb;rw[e] at e';cases e';exact⟨e,f0,f1,f2,d⟩
theorem Inv.unpinned {pins pl:List (Addr×Obj)}{σ:St}{H:Hp}{s:Shared}(I:Inv X (pins++pl) σ H s):Inv X pins σ H s:=I.pins_of λp hp=>I.pin p (A0K _ (A0M _ hp))
theorem Hv {iter:Expr}{body:List Stmt}{wi:TI}{g:TG}{tb:TS}{pos:Pos}(hp:PassesOwn (model X.prog X.w) X.A X.env X.xe)(hc:X.calm=true)(hi:PI X tg iter wi)(hg:PG X tg g)(hb:PSs X body tb)
  (hs:∀ x,foldedSetIterable iter X.env x=pure x:=by intro _;ac_nf):PS X (.For tg iter body [] pos) (as0 wi g tb):=by
 intro pins s σ H D I h;refine wpAny_For (thn (hi pins s σ H _ I h) λv s1 h1=>thn h1 λitv s2 h2=>?_) hs;obtain⟨it,fp,tn,J,H2,e,I2,T,st2,f2,W,⟨m0,w0⟩,turn⟩:=h2;subst e;have stat:∀ {H':Hp},(∀ b∈fp,H' b=none)->∀ b∈fp,Pn X pins H' b:=λhn b hb=>⟨hn b hb,(f2 b hb).2⟩;refine codeAny_forLoop_any (λn s'=>∃ i σ' H',Inv X pins σ' H' s'/\tn i s'.heap/\(∀ b∈fp,H' b=none)/\W i n σ' H') ?_ m0 ⟨0,σ,H2,I2,st2,λb hb=>(f2 b hb).1,w0⟩;rintro n s3 ⟨i,σ3,H3,I3,st3,fr3,w3⟩;rcases turn i n σ3 H3 w3 with ⟨stop,qn⟩|⟨go,N,hN,step⟩
 . refine A3M hp (thn (T.done X rfl rfl rfl hc i pins s3 σ3 H3 X.xe I3 (stat fr3) st3 stop) λr s4 ⟨hr,I4⟩=>?_);subst hr;exact wpAny_execs_nil ⟨σ3,H3,I4,qn⟩
 refine A3M hp (thn (T.item X rfl rfl rfl hc i pins s3 σ3 H3 X.xe I3 (stat fr3) st3 go) λr s4 ⟨u,hr,h4⟩=>?_);subst hr;refine A3M hp (thn h4 λ_ s5 ⟨x,H5,I5,r5,y5,st5,fr5⟩=>?_);have I5':=I5.pinned (stat fr5) (T.obj _ _ st5);refine A3M hp (thn (hg _ s5 σ3 H5 x u _ I5' r5 (step x H5 y5)) λ_ s6 ⟨σ6,H6,I6,q6⟩=>?_);refine A3M hp (thn (hb _ s6 σ6 H6 _ I6 q6) λf s7 q7=>?_)
 have again:∀ {σ7:St} {H7:Hp},Inv X (pins++O5 fp s5.heap) σ7 H7 s7->N σ7 H7->∃ m,m<n/\∃ i σ' H',Inv X pins σ' H' s7/\tn i s7.heap/\(∀ b∈fp,H' b=none)/\W i m σ' H':=fun {σ7 H7} I7 n7=>by obtain⟨m',hm,w7⟩:=hN σ7 H7 n7;refine⟨m',hm,i+1,σ7,H7,I7.unpinned,T.keep _ _ _ st5 λb hb o e=>(I7.pin (b,o) (A0K _ (A0K _ (Ev hb e)))).1,λb hb=>?_,w7⟩;obtain⟨o,e,d⟩:=T.obj _ _ st5 b hb;exact(I7.pin (b,o) (A0K _ (A0K _ (Ev hb e)))).2.1
 cases f with
 |next=>obtain⟨σ7,H7,I7,n7⟩:=q7;exact again I7 n7
 |cont=>obtain⟨σ7,H7,I7,n7⟩:=q7;exact again I7 n7
 |brk=>obtain⟨σ7,H7,I7,q7⟩:=q7;exact⟨σ7,H7,I7.unpinned,q7⟩
 |ret v=>obtain⟨x7,σ7,H7,I7,r7,q7⟩:=q7;exact⟨x7,σ7,H7,I7.unpinned,r7,q7⟩
end
abbrev R2:=V->V->Hp->VK->Prop
def OpR (X:Cx)(f:Value->Value->Sem Value)(r:R2):Prop:=
 ∀(pins:List (Addr×Obj)) (s:Shared) (σ:St) (H:Hp) (x y:V) (v u:Value) (Q:VK),Inv X pins σ H s->RelV x v->RelV y u->r x y H Q ->
  wpAny (model X.prog X.w) X.A (f v u) (EP X pins σ Q) X.xe s
def UnR (X:Cx)(f:Value->Sem Value)(r:V->Hp->VK->Prop):Prop:=
 ∀(pins:List (Addr×Obj)) (s:Shared) (σ:St) (H:Hp) (x:V) (v:Value) (Q:VK),Inv X pins σ H s->RelV x v->r x H Q ->
  wpAny (model X.prog X.w) X.A (f v) (EP X pins σ Q) X.xe s
def CallR (X:Cx)(f:Value)(r:List V->Hp->VK->Prop):Prop:=
 ∀(pins:List (Addr×Obj)) (s:Shared) (σ:St) (H:Hp) (xs:List V) (us:List Value) (Q:VK),Inv X pins σ H s->Vals xs us->r xs H Q ->
  wpAny (model X.prog X.w) X.A (call f us) (EP X pins σ Q) X.xe s
def tOp (r:R2)(ta tb:TE):TE:=fun σ H Q=>ta σ H λx H1=>tb σ H1 λy H2=>r x y H2 Q
def tUn (r:V->Hp->VK->Prop)(ta:TE):TE:=fun σ H Q=>ta σ H λx H1=>r x H1 Q
def rI (C:Int->Int->Prop)(g:Int->Int->V):R2:=λx y H Q=>∃ i j,x = .int i/\y = .int j/\C i j/\Q (g i j) H
def rI0 (g:Int->Int->V):R2:=λx y H Q=>∃ i j,x = .int i/\y = .int j/\Q (g i j) H
def rU (g:Int->V):V->Hp->VK->Prop:=λx H Q=>∃ i,x = .int i/\Q (g i) H
section
variable {X:Cx}{a b c:Expr}{ta tb tc:TE}{pos:Pos}
theorem an8 (ha:PE X a ta)(hb:PE X b tb){pins:List (Addr×Obj)}{s:Shared}{σ:St}{H:Hp}{R:V->V->Hp->Prop}(I:Inv X pins σ H s)
  (h:ta σ H λx H1=>tb σ H1 λy H2=>R x y H2) {Q:Value->Shared->Prop} {f:Value->Value->Sem Value}
  (hf:∀ v u s2 x y H2,Inv X pins σ H2 s2->RelV x v->RelV y u->R x y H2->wpAny (model X.prog X.w) X.A (f v u) Q X.xe s2) :
  wpAny (model X.prog X.w) X.A (eval a X.env) (λv s₁=>wpAny (model X.prog X.w) X.A (eval b X.env) (λu s₂=>wpAny (model X.prog X.w) X.A (f v u) Q X.xe s₂) X.xe s₁) X.xe s:=by
 refine thn (ha pins s σ H _ I h) λv s1 ⟨x,H1,I1,r1,q1⟩=>?_;refine thn (hb pins s1 σ H1 _ I1 q1) λu s2 ⟨y,H2,I2,r2,q2⟩=>?_;exact hf v u s2 x y H2 I2 r1 r2 q2
theorem Aw {op:Operator}{r:R2}(ho:OpR X (binaryOp op) r)(ha:PE X a ta)(hb:PE X b tb):PE X (.BinOp a op b pos) (tOp r ta tb):=by intro pins s σ H Q I h;exact wpAny_BinOp (an8 ha hb I h λv u s2 x y H2 I2 rx ry q=>ho pins s2 σ H2 x y v u Q I2 rx ry q)
theorem Nc {op:UnaryOp}{r:V->Hp->VK->Prop}(ho:UnR X (unaryOp op) r)(ha:PE X a ta):PE X (.UnaryOp op a pos) (tUn r ta):=by intro pins s σ H Q I h;exact UnaryOp_ (thn (ha pins s σ H _ I h) λv s1 ⟨x,H1,I1,r1,q1⟩=>ho pins s1 σ H1 x v Q I1 r1 q1)
theorem opI {f:Value->Value->Sem Value}{C:Int->Int->Prop}{g:Int->Int->Int}
  (rule:∀(i j:Int) (t u:Tok) (s:Shared) (Q:Value->Shared->Prop) (E:Value->Shared->Prop),C i j->Q (.int (g i j) s.toks) {s with toks:=s.toks+1}->wpAny (model X.prog X.w) X.A (f (.int i t) (.int j u)) Q E s) :
  OpR X f (rI C λi j=>.int (g i j)):=by
 intro pins s σ H x y v u Q I rx ry h;obtain⟨i,j,rfl,rfl,hc,q⟩:=h;obtain⟨t,rfl⟩:=rx;obtain⟨t',rfl⟩:=ry;exact rule i j t t' s _ _ hc ⟨.int (g i j),H,I.tok _,⟨_,rfl⟩,q⟩
theorem as6 {f:Value->Value->Sem Value}{g:Int->Int->Int}
  (rule:∀(i j:Int) (t u:Tok) (s:Shared) (Q:Value->Shared->Prop) (E:Value->Shared->Prop),Q (.int (g i j) s.toks) {s with toks:=s.toks+1}->wpAny (model X.prog X.w) X.A (f (.int i t) (.int j u)) Q E s) :
  OpR X f (rI0 λi j=>.int (g i j)):=by
 intro pins s σ H x y v u Q I rx ry h;obtain⟨i,j,rfl,rfl,q⟩:=h;obtain⟨t,rfl⟩:=rx;obtain⟨t',rfl⟩:=ry;exact rule i j t t' s _ _ ⟨.int (g i j),H,I.tok _,⟨_,rfl⟩,q⟩
theorem ak2 {f:Value->Value->Sem Value}{g:Int->Int->Bool}
  (rule:∀(i j:Int) (t u:Tok) (s:Shared) (Q:Value->Shared->Prop) (E:Value->Shared->Prop),Q (.bool (g i j)) s->wpAny (model X.prog X.w) X.A (f (.int i t) (.int j u)) Q E s) :
  OpR X f (rI0 λi j=>.bl (g i j)):=by
 intro pins s σ H x y v u Q I rx ry h;obtain⟨i,j,rfl,rfl,q⟩:=h;obtain⟨t,rfl⟩:=rx;obtain⟨t',rfl⟩:=ry;exact rule i j t t' s _ _ ⟨.bl (g i j),H,I,rfl,q⟩
def an5 (i j:Int):Prop:=0<j/\j<1073741824
def am3 (i j:Int):Prop:=0<=j/\j<=1000000/\i.natAbs<2 ^ 64
def CMul (i j:Int):Prop:=(-(2 ^ 64)<i/\i<2 ^ 64)\/(-(2 ^ 64)<j/\j<2 ^ 64)
theorem CMul.ok {i j:Int}(h:CMul i j):IntMulOk i j:=by
 rcases h with ⟨h1,h2⟩|⟨h1,h2⟩
 . exact .of_left (intBits_le_64 h1 h2)
 exact .of_right (intBits_le_64 h1 h2)
theorem op_add:OpR X (binaryOp .Add) (rI0 λi j=>.int (i+j)):=as6 λ_ _ _ _ _ _ _ q=>add_int q
theorem P6:OpR X (binaryOp .Sub) (rI0 λi j=>.int (i-j)):=as6 λ_ _ _ _ _ _ _ q=>sub_int q
theorem op_mul:OpR X (binaryOp .Mult) (rI CMul λi j=>.int (i*j)):=opI λ_ _ _ _ _ _ _ hc q=>mul_int q hc.ok
theorem Zl:OpR X (binaryOp .FloorDiv) (rI an5 λi j=>.int (i / j)):=opI λi j _ _ _ _ _ hc q=>by have h1:(0:Int)<j:=hc.1;have h2:j<1073741824:=hc.2;exact floordiv_int (by omega) (by rw[Int.fdiv_eq_ediv_of_nonneg i (by omega)];exact q) (.inl (PyProof.noPylong_small (by omega)))
theorem Hw:OpR X (binaryOp .Mod) (rI (λ_ j=>0<j) λi j=>.int (i % j)):=opI λi j _ _ _ _ _ hc q=>by have h1:(0:Int)<j:=hc;exact mod_int' (by omega) (by rw[Int.fmod_eq_emod_of_nonneg i (by omega)];exact q)
theorem Yu:OpR X (binaryOp .Pow) (rI am3 λi j=>.int (i ^ j.toNat)):=opI λ_ _ _ _ _ _ _ hc q=>pow_int_small hc.1 hc.2.1 hc.2.2 q
theorem unI {f:Value->Sem Value}{g:Int->Int}
  (rule:∀(i:Int) (t:Tok) (s:Shared) (Q:Value->Shared->Prop) (E:Value->Shared->Prop),Q (.int (g i) s.toks) {s with toks:=s.toks+1}->wpAny (model X.prog X.w) X.A (f (.int i t)) Q E s) :
  UnR X f (rU λi=>.int (g i)):=by
 intro pins s σ H x v Q I rx h;obtain⟨i,rfl,q⟩:=h;obtain⟨t,rfl⟩:=rx;exact rule i t s _ _ ⟨.int (g i),H,I.tok _,⟨_,rfl⟩,q⟩
theorem Hs:UnR X (unaryOp .USub) (rU λi=>.int (-i)):=unI λ_ _ _ _ _ q=>neg_int q
end
def aj8:V->V->Bool
 |.non,.non=>true | .non,.int _=>true | .int _,.non=>true | .non,.bl _=>true | .bl _,.non=>true | .non,.str _=>true | .str _,.non=>true
 |.int _,.int _=>true | .bl _,.bl _=>true | .str _,.str _=>true | .byt _,.byt _=>true
 |.int _,.str _=>true | .str _,.int _=>true | .bl _,.str _=>true | .str _,.bl _=>true
 |_,_=>false
def rEq:R2:=λx y H Q=>aj8 x y=true/\Q (.bl (decide (x=y))) H
def rNe:R2:=λx y H Q=>aj8 x y=true/\Q (.bl (!decide (x=y))) H
theorem U4 {i j:Int}:decide (V.int i=V.int j)=(i==j):=by rw[A1J];simp
theorem Xl {i j:Bool}:decide (V.bl i=V.bl j)=(i==j):=by rw[A1J];simp
theorem Rr {i j:Str}:decide (V.str i=V.str j)=(i==j):=by rw[A1J];simp
theorem V4 {i j:Array UInt8}:decide (V.byt i=V.byt j)=(i.toList==j.toList):=by
 rw[A1J]
 cases i
 cases j;simp
section
variable {X:Cx}{a b c:Expr}{ta tb tc:TE}{pos:Pos}
theorem Ay {pins:List (Addr×Obj)}{σ:St}{H:Hp}{s:Shared}{Q:VK}{k k':Bool}(I:Inv X pins σ H s)(q:Q (.bl k) H)(e:k=k'):EP X pins σ Q (.bool k') s:=by subst e;exact⟨.bl k,H,I,rfl,q⟩
theorem op_eq:OpR X (compareOp .Eq) rEq:=by
 intro pins s σ H x y v u Q I rx ry h;obtain⟨hs,q⟩:=h
 cases x with
 |non=>
   cases rx
   cases y with
   |non=>cases ry;exact PySem.EqNone.eq_none_none (Ay I q ∅)
   |bl j=>cases ry;exact PySem.EqNone.eq_none_bool (Ay I q ∅)
   |int j=>obtain⟨t',rfl⟩:=ry;exact PySem.EqNone.eq_none_int (Ay I q ∅)
   |str j=>obtain⟨t',rfl⟩:=ry;exact PySem.EqNone.eq_none_str (Ay I q ∅)
   |_=>exact absurd (show false=true from hs) A0B
 |bl i=>
   cases rx
   cases y with
   |non=>cases ry;exact PySem.EqNone.eq_bool_none (Ay I q ∅)
   |bl j=>cases ry;exact eq_bool (Ay I q Xl)
   |str j=>obtain⟨t',rfl⟩:=ry;exact PySem.EqMixed.eq_bool_str (Ay I q ∅)
   |_=>exact absurd (show false=true from hs) A0B
 |int i=>
   obtain⟨t,rfl⟩:=rx
   cases y with
   |non=>cases ry;exact PySem.EqNone.eq_int_none (Ay I q ∅)
   |int j=>obtain⟨t',rfl⟩:=ry;exact eq_int (Ay I q U4)
   |str j=>obtain⟨t',rfl⟩:=ry;exact PySem.EqMixed.eq_int_str (Ay I q ∅)
   |_=>exact absurd (show false=true from hs) A0B
 |str i=>
   obtain⟨t,rfl⟩:=rx
   cases y with
   |non=>cases ry;exact PySem.EqNone.eq_str_none (Ay I q ∅)
   |bl j=>cases ry;exact PySem.EqMixed.eq_str_bool (Ay I q ∅)
   |int j=>obtain⟨t',rfl⟩:=ry;exact PySem.EqMixed.eq_str_int (Ay I q ∅)
   |str j=>obtain⟨t',rfl⟩:=ry;exact eq_str (Ay I q Rr)
   |_=>exact absurd (show false=true from hs) A0B
 |byt i=>
   obtain⟨t,rfl⟩:=rx
   cases y with
   |byt j=>obtain⟨t',rfl⟩:=ry;exact W.eq_bytes (Ay I q V4)
   |_=>exact absurd (show false=true from hs) A0B
 |_=>cases y<;>exact absurd (show false=true from hs) A0B
theorem op_ne:OpR X (compareOp .NotEq) rNe:=by
 intro pins s σ H x y v u Q I rx ry h;obtain⟨hs,q⟩:=h
 cases x with
 |non=>
   cases rx
   cases y with
   |non=>cases ry;exact PySem.EqNone.ne_none_none (Ay I q ∅)
   |bl j=>cases ry;exact PySem.EqNone.ne_none_bool (Ay I q ∅)
   |int j=>obtain⟨t',rfl⟩:=ry;exact PySem.EqNone.ne_none_int (Ay I q ∅)
   |str j=>obtain⟨t',rfl⟩:=ry;exact PySem.EqNone.ne_none_str (Ay I q ∅)
   |_=>exact absurd (show false=true from hs) A0B
 |bl i=>
   cases rx
   cases y with
   |non=>cases ry;exact PySem.EqNone.ne_bool_none (Ay I q ∅)
   |bl j=>cases ry;exact ne_bool (Ay I q (congrArg not Xl))
   |str j=>obtain⟨t',rfl⟩:=ry;exact PySem.EqMixed.ne_bool_str (Ay I q ∅)
   |_=>exact absurd (show false=true from hs) A0B
 |int i=>
   obtain⟨t,rfl⟩:=rx
   cases y with
   |non=>cases ry;exact PySem.EqNone.ne_int_none (Ay I q ∅)
   |int j=>obtain⟨t',rfl⟩:=ry;exact ne_int (Ay I q (congrArg not U4))
   |str j=>obtain⟨t',rfl⟩:=ry;exact PySem.EqMixed.ne_int_str (Ay I q ∅)
   |_=>exact absurd (show false=true from hs) A0B
 |str i=>
   obtain⟨t,rfl⟩:=rx
   cases y with
   |non=>cases ry;exact PySem.EqNone.ne_str_none (Ay I q ∅)
   |bl j=>cases ry;exact PySem.EqMixed.ne_str_bool (Ay I q ∅)
   |int j=>obtain⟨t',rfl⟩:=ry;exact PySem.EqMixed.ne_str_int (Ay I q ∅)
   |str j=>obtain⟨t',rfl⟩:=ry;exact ne_str (Ay I q (congrArg not Rr))
   |_=>exact absurd (show false=true from hs) A0B
 |byt i=>
   obtain⟨t,rfl⟩:=rx
   cases y with
   |byt j=>obtain⟨t',rfl⟩:=ry;exact W.ne_bytes (Ay I q (congrArg not V4))
   |_=>exact absurd (show false=true from hs) A0B
 |_=>cases y<;>exact absurd (show false=true from hs) A0B
theorem Qn:OpR X (compareOp .Lt) (rI0 λi j=>.bl (decide (i<j))):=ak2 λ_ _ _ _ _ _ _ q=>lt_int q
theorem a41:OpR X (compareOp .LtE) (rI0 λi j=>.bl (decide (i<=j))):=ak2 λ_ _ _ _ _ _ _ q=>le_int q
theorem Ur:OpR X (compareOp .Gt) (rI0 λi j=>.bl (decide (j<i))):=ak2 λ_ _ _ _ _ _ _ q=>gt_int q
theorem Wv:OpR X (compareOp .GtE) (rI0 λi j=>.bl (decide (j<=i))):=ak2 λ_ _ _ _ _ _ _ q=>ge_int q
theorem op_in_str:OpR X (compareOp .In) (λx y H Q=>∃ i j,x = .str i/\y = .str j/\Q (.bl (!(Builtin.Str.occurrences j i 0 j.length 1).isEmpty)) H):=by intro pins s σ H x y v u Q I rx ry h;obtain⟨i,j,rfl,rfl,q⟩:=h;obtain⟨t,rfl⟩:=rx;obtain⟨t',rfl⟩:=ry;exact in_str (Ay I q rfl)
theorem ah5:OpR X (compareOp .Is) (λx y H Q=>y = .non/\Q (.bl (decide (x = .non))) H):=by
 intro pins s σ H x y v u Q I rx ry h;obtain⟨rfl,q⟩:=h
 cases ry;refine is_none_gen (Ay I q ?_)
 cases x<;>first
  | (cases rx;rfl)
  | (obtain⟨t,rfl⟩:=rx;rfl)
theorem a10:OpR X (compareOp .IsNot) (λx y H Q=>y = .non/\Q (.bl (!decide (x = .non))) H):=by
 intro pins s σ H x y v u Q I rx ry h;obtain⟨rfl,q⟩:=h
 cases ry;refine isnot_none_gen (Ay I q ?_)
 cases x<;>first
  | (cases rx;rfl)
  | (obtain⟨t,rfl⟩:=rx;rfl)
theorem OpR.or {f:Value->Value->Sem Value}{r r':R2}(h:OpR X f r)(h':OpR X f r'):OpR X f (λx y H Q=>r x y H Q\/r' x y H Q):=by
 intro pins s σ H x y v u Q I rx ry q;rcases q with q|q
 . exact h pins s σ H x y v u Q I rx ry q
 exact h' pins s σ H x y v u Q I rx ry q
theorem Ag (b:Expr){op:CmpOp}(h:op ≠ .In:=by decide)(h2:op ≠ .NotIn:=by decide):behindInMarks op b=false:=by
 have e1:(op==CmpOp.In)=false:=by cases op<;>first | rfl | exact absurd rfl h
 have e2:(op==CmpOp.NotIn)=false:=by cases op<;>first | rfl | exact absurd rfl h2
 cases b<;>simp[behindInMarks,e1,e2]
theorem Az {op:CmpOp}{r:R2}(ho:OpR X (compareOp op) r)(ha:PE X a ta)(hb:PE X b tb)(hm:behindInMarks op b=false):PE X (.Compare a [op] [b] pos) (tOp r ta tb):=by intro pins s σ H Q I h;exact wpAny_Compare1 (an8 ha hb I h λv u s2 x y H2 I2 rx ry q=>ho pins s2 σ H2 x y v u Q I2 rx ry q) hm
def Yx (t:TE):TT:=fun σ H Q=>t σ H λx H'=>∃ k,x = .bl k/\Q k H'
theorem Af {op:CmpOp}{r:R2}(ho:OpR X (compareOp op) r)(ha:PE X a ta)(hb:PE X b tb)(hm:behindInMarks op b=false):PT X (.Compare a [op] [b] pos) (Yx (tOp r ta tb)):=by
 intro pins s σ H Q I h
 refine wpAny_isTrue_Compare1 (thn (ha pins s σ H _ I h) λv s1 ⟨x,H1,I1,r1,q1⟩=>thn (hb pins s1 σ H1 _ I1 q1) λu s2 ⟨y,H2,I2,r2,q2⟩=>thn (ho pins s2 σ H2 x y v u _ I2 r1 r2 q2) λc s3 ⟨z,H3,I3,r3,k,e,q3⟩=>?_) hm
 subst e
 cases r3;exact A1N ⟨H3,I3,q3⟩
def Y2 (r r':R2)(ta tb tc:TE):TE:=fun σ H Q=>ta σ H λx H1=>tb σ H1 λy H2=>r x y H2 λz H3=>∃ k,z = .bl k /\
 (if k=true then tc σ H3 λw' H4=>r' y w' H4 Q else Q (.bl false) H3)
theorem Vu {op op':CmpOp}{r r':R2}(ho:OpR X (compareOp op) r)(ho':OpR X (compareOp op') r')(ha:PE X a ta)(hb:PE X b tb)(hc:PE X c tc)
  (hm:lastMarks [op,op'] [b,c]=false:=by ac_nf):PT X (.Compare a [op,op'] [b,c] pos) (Yx (Y2 r r' ta tb tc)):=by
 intro pins s σ H Q I h
 refine isTrue_chain (thn (ha pins s σ H _ I h) λv s1 ⟨x,H1,I1,r1,q1⟩=>test_link (thn (hb pins s1 σ H1 _ I1 q1) λu s2 ⟨y,H2,I2,r2,q2⟩=>thn (ho pins s2 σ H2 x y v u _ I2 r1 r2 q2) λd s3 ⟨z,H3,I3,r3,k,e,q3⟩=>?_)) hm
 subst e
 cases r3;refine A1N ?_
 cases k with
 |false=>
   obtain⟨k',e',q'⟩:=q3
   cases e';exact ite_ff ⟨H3,I3,q'⟩
 |true=>
   refine ite_tt (test_last (thn (hc pins s3 σ H3 _ I3 q3) λw' s4 ⟨z',H4,I4,r4,q4⟩=>thn (ho' pins s4 σ H4 y z' u w' _ I4 r2 r4 q4) λd' s5 ⟨z2,H5,I5,r5,k2,e2,q5⟩=>?_));subst e2
   cases r5;exact A1N ⟨H5,I5,q5⟩
theorem Q7:(sizeLine:Nat)<2 ^ 63:=by rw[A11];decide
theorem op_add_str:OpR X (binaryOp .Add) (λx y H Q=>∃ i j,x = .str i/\y = .str j/\i.length+j.length<=sizeLine/\Q (.str (i++j)) H):=by intro pins s σ H x y v u Q I rx ry h;obtain⟨i,j,rfl,rfl,hz,q⟩:=h;obtain⟨t,rfl⟩:=rx;obtain⟨t',rfl⟩:=ry;exact add_str (λt' tk=>⟨.str (i++j),H,I.tok _,⟨_,rfl⟩,q⟩) hz
theorem Oh {x:V}{us:List Value}(r:Vals [x] us):∃ u,us=[u]/\RelV x u:=by
 cases r with
 |cons r1 r2=>cases r2;exact⟨_,rfl,r1⟩
theorem Rc {x y:V}{us:List Value}(r:Vals [x,y] us):∃ u w',us=[u,w']/\RelV x u/\RelV y w':=by
 cases r with
 |cons r1 r2=>
   cases r2 with
   |cons r3 r4=>cases r4;exact⟨_,_,rfl,r1,r3⟩
def aq9 (K:W.Frag)(x:V)(H:Hp)(n:Nat):Prop:=
 match x with
 |.str y=>y.length<=sizeLine/\n=y.length
 |.byt y=>y.size<=sizeLine/\n=y.size
 |.ref p=>(∃ xs,SqL K H p xs/\n=xs.length)\/∃ xs,SqT K H p xs/\n=xs.length
 |_=>False
theorem call_len:CallR X (.builtin "len") (λxs H Q=>∃ x n,xs=[x]/\aq9 X.K x H n/\Q (.int n) H):=by
 intro pins s σ H xs us Q I r h;obtain⟨x,n,rfl,e,q⟩:=h;obtain ⟨u,rfl,rx⟩:=Oh r;have hl:=Q7;have hs:sizeLine=16777216:=A11
 cases x with
 |str y=>obtain⟨t,rfl⟩:=rx;obtain⟨hy,e'⟩:y.length<=sizeLine/\n=y.length:=e;subst e';exact len_str (by omega) ⟨.int _,H,I.tok _,⟨_,rfl⟩,q⟩
 |byt y=>obtain⟨t,rfl⟩:=rx;obtain⟨hy,e'⟩:y.size<=sizeLine/\n=y.size:=e;subst e';exact W.len_bytes (by omega) ⟨.int _,H,I.tok _,⟨_,rfl⟩,q⟩
 |ref p=>
   cases rx;have e':(∃ xs,SqL X.K H p xs/\n=xs.length)\/∃ xs,SqT X.K H p xs/\n=xs.length:=e;rcases e' with ⟨xs,hx,e'⟩|⟨xs,hx,e'⟩
   . subst e';obtain⟨its,r',pl,hz⟩:=I.list hx;have hlen:=r'.length;exact Calls.call_len_list pl.isList (by simp only[List.size_toArray];omega) ⟨.int xs.length,H,I.tok _,⟨_,by simp only[List.size_toArray];rw[hlen]⟩,q⟩
   subst e';obtain⟨its,r',pl,hz⟩:=I.tuple hx;have hlen:=r'.length;exact len_tuple pl (by simp only[List.size_toArray];omega) ⟨.int xs.length,H,I.tok _,⟨_,by simp only[List.size_toArray];rw[hlen]⟩,q⟩
 |_=>exact(show False from e).elim
end
structure ObjM (h:Heap)(x dx C:Addr)(mA:Str->Option Value):Prop where
 obj:h.get? x=some (W.instObj C dx)
 ns:h.Ns1 dx mA
 ne:dx≠x
theorem Ny {h:Heap}{dx:Addr}{mA:Str->Option Value}(n:h.Ns1 dx mA):∃ od,h.get? dx=some od/\∀ name,W.lookIn name od=some (mA name):=by
 obtain⟨o,es,ep,ho,hd,hk,_,hm⟩:=n;refine⟨o,ho,λname=>?_⟩;have e:=hm name;unfold nsFind findBy at e;rw[<- Array.find?_toList] at e;unfold W.lookIn;rw[hd];dsimp only
 split
 . rename_i y q;rw[q] at e;exact congrArg some e
 rename_i q;rw[q] at e
 have a:es.toList.any (·.refKey)=false:=by rw[A3S];intro y hy;obtain⟨z,t,hkey⟩:=hk y (A4M.mp hy);simp[DictEntry.refKey,hkey]
 have a':¬ es.toList.any (·.refKey)=true:=by rw[a];exact A0B
 rw[A0L a'];exact congrArg some e
theorem ObjM.look {h:Heap}{x dx C:Addr}{mA:Str->Option Value}(I:ObjM h x dx C mA):∃ od,W.InstAt h x (W.instObj C dx) C (some od)/\∀ name,W.lookIn name od=some (mA name):=
 let ⟨od,ho,hl⟩:=Ny I.ns
 ⟨od,⟨I.obj,rfl,rfl,ho⟩,hl⟩
section
variable {prog:Program}{w:World}{A:Around}{E:Value->Shared->Prop}{s:Shared}{K:W.Frag}{x dx C f:Addr}{mA:Str->Option Value}{name:Str}{v:Value}
end
def Xz (f:Str) (v:V):List (Str×V)->List (Str×V)
 | []=>[(f,v)]
 | (g,x) :: r=>if g=f then(g,v) :: r else(g,x) :: Xz f v r
theorem J0 (f g:Str)(v:V):∀ fs:List (Str×V),(Xz f v fs).lookup g=if g=f then some v else fs.lookup g
 | []=>by
   show List.lookup g [(f,v)]=_
   by_cases h:g=f
   . have hb:(g==f)=true:=A1Z.mpr h;simp only[List.lookup,hb,if_pos h]
   have hb:(g==f)=false:=A0S.mpr h;simp only[List.lookup,hb,if_neg h]
 | (k,x) :: r=>by
   have ih:=J0 f g v r;rw[show Xz f v ((k,x) :: r)=(if k=f then(k,v) :: r else(k,x) :: Xz f v r) from rfl]
   by_cases hk:k=f
   . rw[A0Q hk]
     by_cases h:g=k
     . have hb:(g==k)=true:=A1Z.mpr h;simp only[List.lookup,hb,if_pos (h.trans hk)]
     have hb:(g==k)=false:=A0S.mpr h;simp only[List.lookup,hb,if_neg (λe:g=f=>h (e.trans hk.symm))]
   rw[A0L hk]
   by_cases h:g=k
   . have hb:(g==k)=true:=A1Z.mpr h;simp only[List.lookup,hb,if_neg (λe:g=f=>hk (h.symm.trans e))]
   have hb:(g==k)=false:=A0S.mpr h;simp only[List.lookup,hb];exact ih
theorem RelO.some_of {v:V}{o:Option Value}(r:RelO (some v) o):∃ u,o=some u/\RelV v u:=by
 cases o with
 |none=>exact(show False from r).elim
 |some u=>exact⟨u,rfl,r⟩
theorem RelO.none_of {o:Option Value}(r:RelO none o):o=none:=by
 cases o with
 |none=>rfl
 |some u=>exact(show False from r).elim
theorem U6 {v:V}{u:Value}(r:RelV v u):W.handedIn u=true:=by
 cases v with
 |non=>cases (show u=Value.none from r);rfl
 |bl b=>cases (show u=Value.bool b from r);rfl
 |int i=>obtain⟨t,e⟩:=(show ∃ t,u=Value.int i t from r);cases e;rfl
 |str x=>obtain⟨t,e⟩:=(show ∃ t,u=Value.str x t from r);cases e;rfl
 |byt b=>obtain⟨t,e⟩:=(show ∃ t,u=Value.bytes b t from r);cases e;rfl
 |flt b=>obtain⟨t,e⟩:=(show ∃ t,u=Value.float b t from r);cases e;rfl
 |ref a=>cases (show u=Value.ref a from r);rfl
 |ty n=>cases (show u=Value.type n from r);rfl
section
variable {P:Program}{w:World}{H H':Hp}{h h':Heap}{a C dx:Addr}{fs fs':List (Str×V)}
theorem a16 (hok:HOk P w H h)(e:H a=some (.ins C dx fs)):∃ mA,ObjM h a dx C mA/\(∀ f,RelO (fs.lookup f) (mA f))/\PySem.Within mA (fs.map (·.1))/\fs.length<=1000/\H dx=some (.own a):=by obtain⟨d,z,ne,ob,mA,n,r,q⟩:=(show ObjOk P w H h a (.ins C dx fs) from hok a _ e);exact⟨mA,⟨ob,n,ne⟩,r,q,z,d⟩
end
structure Cls (K:W.Frag)(C:Addr):Prop where
 pg:W.plainGet K C Str.empty=true
 hd:W.hasDictIn K C=true
 po:W.plainOver K C=true
 sa:W.findIn K (.ref C) "__setattr__" = some (some (.builtin "object.__setattr__"))
theorem Cls.get {K:W.Frag}{C:Addr}(c:Cls K C)(f:Str):W.plainGet K C f=true:=c.pg
def C6 (K:W.Frag)(C:Addr)(f:Str):Prop:=W.findIn K (.ref C) f=some none
section
variable {X:Cx}{pins:List (Addr×Obj)}{σ:St}{H:Hp}{s:Shared}{a C dx:Addr}{fs:List (Str×V)}{f:Str}{v:V}{A:Around}{E:Value->Shared->Prop}
theorem Inv.made (I:Inv X pins σ H s):Inv X pins σ (upd (upd H s.heap.objs.size (.own (s.heap.objs.size+1))) (s.heap.objs.size+1) (.ins C s.heap.objs.size []))
  {s with heap:=(s.heap.push W.emptyDict).push (W.instObj C s.heap.objs.size)}:=by
 have e1:(s.heap.push W.emptyDict).get? s.heap.objs.size=some W.emptyDict:=A0E s.heap rfl
 have e2:((s.heap.push W.emptyDict).push (W.instObj C s.heap.objs.size)).get? (s.heap.objs.size+1)=some (W.instObj C s.heap.objs.size):=by have:=A0E (s.heap.push W.emptyDict) (o:=W.instObj C s.heap.objs.size) rfl;rwa[A1G] at this
 have e3:(s.heap.push W.emptyDict).Ns s.heap.objs.size (λ_=>none):=⟨W.emptyDict,#[],_,e1,rfl,(λe he=>absurd he ∅),λ_=>rfl⟩;have I1:=I.laid (a:=s.heap.objs.size) (o:=.own (s.heap.objs.size+1)) (h':=s.heap.push W.emptyDict) (t':=s.toks) (λb u q=>A01 _ q) (A0A _) ⟨_,e1⟩;refine I1.laid (a:=s.heap.objs.size+1) (o:=.ins C s.heap.objs.size []) (t':=s.toks) (λb u q=>A01 _ q) (Nat.le_of_eq (A1G _ _)) ?_;have ne:s.heap.objs.size≠s.heap.objs.size+1:=A0O (Nat.lt_succ_self _);refine⟨by rw[Al ne,Aa],A2R _,ne,e2,λ_=>none,(Heap.Ns1.of_empty e3).at λo q=>A01 _ q,λ_=>A1U,λy hy=>absurd rfl hy⟩
theorem a63 {prog:Program}{w:World}{env:Env}{e:Expr}{f:Str}{pos:Pos}{s:Shared}{Q:Value->Shared->Prop}(hb:attributeBase e f env (eval e env)=eval e env)
  (h:wpAny (model prog w) A (eval e env) (λo s₁=>wpAny (model prog w) A (getAttr o f true) Q E s₁) E s):wpAny (model prog w) A (eval (.Attribute e f pos) env) Q E s:=
 Attribute_any_ h (by rw[arm_eval_Attribute,hb])
end
section
variable {X:Cx}{o e value:Expr}{f:Str}{pos pos' tpos:Pos}{ta tv:TE}
end
section
variable {X:Cx}{pins:List (Addr×Obj)}{σ:St}{H:Hp}{s:Shared}{A:Around}{E:Value->Shared->Prop}{Q:Value->Shared->Prop}{c:Value}{b:Bool}
inductive TyOf (K:W.Frag)(H:Hp):V->Value->Prop where
 |non:TyOf K H .non (.type "NoneType")
 |bl (x:Bool):TyOf K H (.bl x) (.type "bool")
 |int (i:Int):TyOf K H (.int i) (.type "int")
 |str (x:Str):TyOf K H (.str x) (.type "str")
 |flt (x:UInt64):TyOf K H (.flt x) (.type "float")
 |lst {a:Addr} {xs:List V} (e:H a=some (.lst xs)):TyOf K H (.ref a) (.type "list")
 |frz {a:Addr} {o:Obj} {xs:List V} (e:H a=some (.frz o (.lst xs))):TyOf K H (.ref a) (.type "list")
 |tup {a:Addr} {xs:List V} (e:H a=some (.tup xs)):TyOf K H (.ref a) (.type "tuple")
 |dK {a:Addr} {kvs:List (Key×V)} (e:H a=some (.dK kvs)):TyOf K H (.ref a) (.type "dict")
 |dT {a:Addr} {kvs:List (List Key×V)} (e:H a=some (.dT kvs)):TyOf K H (.ref a) (.type "dict")
 |ins {a C dx:Addr} {fs:List (Str×V)} (e:H a=some (.ins C dx fs)) (cl:Cls K C) (ha:W.findIn K (.ref C) "__class__" = some (some (.builtin "object.__class__")))
   (hn:W.specialIn K (.builtin "object.__class__") "__get__" = some (some (.builtin "getset_descriptor.__get__"))) (htk:W.takesIn K (.builtin "object.__class__")=some true)
   (hm:W.mroIn K C (.type "object")=some true):TyOf K H (.ref a) (.ref C)
theorem O4 {x:V}{u t:Value}(I:Inv X pins σ H s)(rx:RelV x u)(ty:TyOf X.K H x t)(e:W.kitOne X.K t c=some b)(h:∀ tk,Q (.bool b) {s with toks:=tk}) :
  wpAny (model X.prog X.w) A (call (.builtin "isinstance") [u,c]) Q E s:=by
 cases ty with
 |non=>cases (show u=Value.none from rx);exact A18 W.kitx_none I.kIn A1U e (λz=>nomatch z) h
 |bl y=>cases (show u=Value.bool y from rx);exact A18 W.kitx_bool I.kIn A1U e (λz=>nomatch z) h
 |int i=>obtain⟨t,q⟩:=(show ∃ t,u=Value.int i t from rx);cases q;exact A18 W.kitx_int I.kIn A1U e (λz=>nomatch z) h
 |str y=>obtain⟨t,q⟩:=(show ∃ t,u=Value.str y t from rx);cases q;exact A18 W.kitx_str I.kIn A1U e (λz=>nomatch z) h
 |flt y=>obtain⟨t,q⟩:=(show ∃ t,u=Value.float y t from rx);cases q;exact A18 W.kitx_float I.kIn A1U e (λz=>nomatch z) h
 |@lst a xs ea=>cases (show u=Value.ref a from rx);obtain⟨_,_,n,_,h1⟩:=(show ObjOk X.prog X.w H s.heap a (.lst xs) from I.hok a _ ea);exact A18 W.kitx_list I.kIn ⟨_,h1,rfl⟩ e (λz=>nomatch z) h
 |@frz a ob xs ea=>cases (show u=Value.ref a from rx);obtain⟨_,_,_,n,_,h1⟩:=(show ObjOk X.prog X.w H s.heap a (.frz ob (.lst xs)) from I.hok a _ ea);exact A18 W.kitx_list I.kIn ⟨_,h1,rfl⟩ e (λz=>nomatch z) h
 |@tup a xs ea=>cases (show u=Value.ref a from rx);obtain⟨_,_,_,p⟩:=(show ObjOk X.prog X.w H s.heap a (.tup xs) from I.hok a _ ea);obtain⟨o,h1,h2,_⟩:=p;exact A18 W.kitx_tuple I.kIn ⟨o,h1,h2⟩ e (λz=>nomatch z) h
 |@dK a kvs ea=>cases (show u=Value.ref a from rx);obtain⟨_,_,vs,_,p⟩:=(show ObjOk X.prog X.w H s.heap a (.dK kvs) from I.hok a _ ea);obtain⟨o,es,ep,h1,h2,_⟩:=p;exact A18 W.kitx_dict I.kIn ⟨o,h1,h2.1⟩ e (λz=>nomatch z) h
 |@dT a kvs ea=>cases (show u=Value.ref a from rx);obtain⟨_,_,xs,_,o,es,ep,h1,h2,_⟩:=(show ObjOk X.prog X.w H s.heap a (.dT kvs) from I.hok a _ ea);exact A18 W.kitx_dict I.kIn ⟨o,h1,h2.1⟩ e (λz=>nomatch z) h
 |@ins a C dx fs ea cl ha hn htk hm=>cases (show u=Value.ref a from rx);obtain⟨mA,O,_⟩:=a16 I.hok ea;obtain⟨od,J,_⟩:=O.look;exact A18 (W.kitx_own (cl.get _) cl.hd ha hn htk hm) I.kIn J e (λz=>nomatch z) h
end
structure Room (k:Nat)(A:Around):Prop where
 hd:A.handled=none
 dp:A.depth+3*k+5<recursionLimit
 un:A.units+16*k+200<cLine
 gd:A.guards=some []
theorem Room.mono {j k:Nat}{A:Around}(r:Room k A)(h:j<=k):Room j A:=⟨r.hd,by have:=r.dp;omega,by have:=r.un;omega,r.gd⟩
theorem Room.deeper {k:Nat}{A:Around}(r:Room (k+1) A)(env:Env):Room k (A.deeper env):=
 ⟨r.hd,by have:=r.dp;show A.depth+1+3*k+5<_;omega,by have:=r.un;show A.units+3+16*k+200<_;omega,r.gd⟩
theorem Room.in1 {k:Nat}{A:Around}(r:Room (k+1) A):Room k A.in1:=
 ⟨r.hd,by have:=r.dp;show A.depth+3*k+5<_;omega,by have:=r.un;show A.units+1+16*k+200<_;omega,r.gd⟩
theorem Qs {A:Around}{C:Addr}{us:List Value}{kw:List (Str×Value)}:(A.under (.builtin "type.__call__" ⟨.ref C :: us,kw⟩)).depth=A.depth+1:=by first | rfl | simp[Around.under,Code.weight,Code.isCreation,Code.isGuard,Code.isCaller,Code.frames,Code.isFrame,guardIds]
theorem Qm {A:Around}{C:Addr}{us:List Value}{kw:List (Str×Value)}:(A.under (.builtin "type.__call__" ⟨.ref C :: us,kw⟩)).units=A.units+1:=by first | rfl | simp[Around.under,Code.cUnits,Code.frames,Code.isFrame]
theorem Room.make {k:Nat}{A:Around}(r:Room (k+1) A)(C:Addr)(us:List Value)(kw:List (Str×Value)):Room k (A.under (.builtin "type.__call__" ⟨.ref C :: us,kw⟩)):=
 ⟨r.hd,by have:=r.dp;rw[Qs];omega,by have:=r.un;rw[Qm];omega,(by first | exact r.gd | (simpa[Around.under,Code.isGuard,guardIds,pushGuards] using r.gd))⟩
theorem Room.depth {k:Nat}{A:Around}(r:Room k A):A.depth<recursionLimit:=by have:=r.dp;omega
theorem Room.units {k:Nat}{A:Around}(r:Room k A):A.units+64<cLine:=by have:=r.un;omega
def aq1:TA:=λ_ H Q=>Q [] H
def aa3 (ta:TE)(tr:TA):TA:=fun σ H Q=>ta σ H λx H1=>tr σ H1 λxs H2=>Q (x :: xs) H2
section
variable {X:Cx}{e:Expr}{es:List Expr}{te:TE}{t:TA}{pos:Pos}
theorem A1:PA X [] aq1:=λ_ _ _ _ H Q I h=>Calls.spliced_nil ⟨[],H,I,.nil,h⟩
theorem A0 (ha:PE X e te)(hr:PA X es t)(hs:starEach (e :: es) X.env=(false,eval e X.env) :: starEach es X.env:=by ac_nf):PA X (e :: es) (aa3 te t):=by intro pos pins s σ H Q I h;rw[hs];show wpAny _ _ (spliced ((false,eval e X.env) :: backTo pos (starEach es X.env))) _ _ s;refine Calls.spliced_cons (thn (ha pins s σ H _ I h) λu s1 ⟨x,H1,I1,r1,q1⟩=>?_);exact thn (hr pos pins s1 σ H1 _ I1 q1) λus s2 ⟨xs,H2,I2,r2,q2⟩=>⟨x :: xs,H2,I2,.cons r1 r2,q2⟩
def aq7 (t:TA):TE:=fun σ H Q=>t σ H λxs H1=>xs.length<=sizeLine/\∀ p,H1 p=none->Q (.ref p) (upd H1 p (.tup xs))
def ar4 (t:TA):TE:=fun σ H Q=>t σ H λxs H1=>xs.length<=sizeLine/\∀ p,H1 p=none->Q (.ref p) (upd H1 p (.lst xs))
theorem Ae {x1}(h:PA X es t):PE X (.Tuple es x1 pos) (aq7 t):=by intro pins s σ H Q I hq;refine wpAny_Tuple_spliced (thn (h pos pins s σ H _ I hq) λus s1 ⟨xs,H1,I1,r,z,q⟩=>⟨by rw[<- r.length];exact z,?_⟩);have hf:H1 s1.heap.objs.size=none:=I1.hok.fresh (A0A _);refine⟨.ref s1.heap.objs.size,upd H1 s1.heap.objs.size (.tup xs),I1.laid (t':=s1.toks) (λb u e=>A01 _ e) (A0A _) ?_,rfl,q _ hf⟩;exact⟨z,us,r,⟨_,A0E _ rfl,rfl,⟨_,rfl⟩,rfl⟩⟩
theorem Co (h:PA X es t):PE X (.List es pos) (ar4 t):=by intro pins s σ H Q I hq;refine wpAny_List_spliced (thn (h pos pins s σ H _ I hq) λus s1 ⟨xs,H1,I1,r,z,q⟩=>⟨by rw[<- r.length];exact z,?_⟩);have hf:H1 s1.heap.objs.size=none:=I1.hok.fresh (A0A _);refine⟨.ref s1.heap.objs.size,upd H1 s1.heap.objs.size (.lst xs),I1.laid (t':=s1.toks) (λb u e=>A01 _ e) (A0A _) ?_,rfl,q _ hf⟩;exact⟨z,us,0,r,A0E _ rfl⟩
end
abbrev Sp:=List V->Hp->VK->XK->Prop
abbrev CXT:=List Env->Hp->Shared->XK->Value->Shared->Prop
structure Env0 (P:Program)(w:World)(K:W.Frag)(mg:Str->Option Value)(base:Heap)(A:Around)(outer:List Env)(s:Shared)(H:Hp):Prop where
 frames:A.frames=some outer
 mod:Mod K mg base
 bs:∀ b o,base.get? b=some o->s.heap.get? b=some o/\H b=none
 bsz:base.objs.size<=s.heap.objs.size
 funs:s.heap.FunFrames base outer
 frf:∀ b∈frs outer,H b=none
 hok:HOk P w H s.heap
 bare:AllBare s.gens
def CE (outer:List Env)(P:Program)(w:World)(H:Hp)(s:Shared)(Q:VK)(u:Value)(s':Shared):Prop:=
 ∃ v H',s'.os=s.os/\AllBare s'.gens/\Un (frs outer) [] H H' s.heap s'.heap/\HOk P w H' s'.heap/\RelV v u/\Q v H'
def CR (CX:CXT)(outer:List Env)(P:Program)(w:World)(H:Hp)(s:Shared)(Q:VK)(E:XK)(r:Result)(s':Shared):Prop:=
 match r with
 |.ok (.ret u)=>CE outer P w H s Q u s'
 |.ok _=>False
 |.error e=>CX outer H s E e s'
structure FnOk (P:Program)(w:World)(K:W.Frag)(mg:Str->Option Value)(base:Heap)(CX:CXT)(k:Nat)(f:Addr)(fd:FuncData)(ps:List Str)(sp:Sp):Prop where
 len:∀ vs H Q E,sp vs H Q E->vs.length=ps.length
 run:∀(A:Around) (outer:List Env) (s:Shared) (H:Hp) (args:Args) (us:List Value) (vs:List V) (Q:VK) (E:XK),Room k A->Env0 P w K mg base A outer s H->BindsTo s fd args (ps.zip us)->Vals vs us->sp vs H Q E ->
  codeAny (model P w) A (.call (.ref f) args) (CR CX outer P w H s Q E) s
theorem FnOk.mono {P:Program}{w:World}{K:W.Frag}{mg:Str->Option Value}{base:Heap}{CX:CXT}{j k:Nat}{f:Addr}{fd:FuncData}{ps:List Str}{sp:Sp}(F:FnOk P w K mg base CX j f fd ps sp)(h:j<=k) :
  FnOk P w K mg base CX k f fd ps sp:=⟨F.len,λA outer s H args us vs Q E hr=>F.run A outer s H args us vs Q E (hr.mono h)⟩
theorem FnOk.imp {P:Program}{w:World}{K:W.Frag}{mg:Str->Option Value}{base:Heap}{CX:CXT}{k:Nat}{f:Addr}{fd:FuncData}{ps:List Str}{sp sp':Sp}(F:FnOk P w K mg base CX k f fd ps sp)
  (h:∀ vs H Q E,sp' vs H Q E->sp vs H Q E):FnOk P w K mg base CX k f fd ps sp':=
 ⟨λvs H Q E q=>F.len vs H Q E (h _ _ _ _ q),λA outer s H args us vs Q E hr he hb hv hs=>F.run A outer s H args us vs Q E hr he hb hv (h _ _ _ _ hs)⟩
theorem Env0.make {P:Program}{w:World}{K:W.Frag}{mg:Str->Option Value}{base:Heap}{A:Around}{outer:List Env}{s:Shared}{H:Hp}(e:Env0 P w K mg base A outer s H)(C:Addr)(us:List Value)(kw:List (Str×Value)) :
  Env0 P w K mg base (A.under (.builtin "type.__call__" ⟨.ref C :: us,kw⟩)) outer s H:=⟨by first | exact e.frames | (simpa[Around.under,Code.envs,Code.isFrame,pushEnvs] using e.frames),e.mod,e.bs,e.bsz,e.funs,e.frf,e.hok,e.bare⟩
theorem Env0.in1 {P:Program}{w:World}{K:W.Frag}{mg:Str->Option Value}{base:Heap}{A:Around}{outer:List Env}{s:Shared}{H:Hp}(e:Env0 P w K mg base A outer s H) :
  Env0 P w K mg base A.in1 outer s H:=⟨e.frames,e.mod,e.bs,e.bsz,e.funs,e.frf,e.hok,e.bare⟩
section
variable {X:Cx}{pins:List (Addr×Obj)}{σ:St}{H:Hp}{s s':Shared}
theorem Inv.env0 (I:Inv X pins σ H s):Env0 X.prog X.w X.K X.mg X.base X.A X.stack s H:=
 ⟨I.ok.frames,I.ok.mod,I.bs,A0P I.ok.bsz I.sz,I.stack,I.stkFree,I.hok,I.bare⟩
theorem Inv.after {Q:VK}{u:Value}(I:Inv X pins σ H s)(h:CE X.stack X.prog X.w H s Q u s'):EP X pins σ Q u s':=by obtain⟨v,H',os,bare,un,hok,r,q⟩:=h;obtain⟨hh,g,d,t,os'⟩:=s';obtain rfl:os'=s.os:=os;exact⟨v,H',I.call (h':=hh) (g':=g) (d':=d) (t':=t) (ch:=[]) un hok bare (λb z=>absurd z ∅),r,q⟩
end
def W4 (sp:Sp)(dvs:List V)(E:XK)(t:TA):TE:=fun σ H Q=>t σ H λvs H1=>sp (vs++dvs) H1 Q E
def Binds (K:W.Frag)(fd:FuncData)(ps:List Str)(ds:List Value):Prop:=
 ∀(s:Shared) (us:List Value),K.In s.heap->(us++ds).length=ps.length->BindsTo s fd ⟨us,[]⟩ (ps.zip (us++ds))
theorem Binds.all {K:W.Frag}{fd:FuncData}{ps:List Str}(h:∀ us:List Value,us.length=ps.length->bindArgs fd ⟨us,[]⟩=pure (ps.zip us)):Binds K fd ps []:=λs us _ hl=>by rw[A33] at hl ⊢;exact .of_eq (h us hl)
def Nj (CX:CXT)(X:Cx)(E:XK):Prop:=∀(pins:List (Addr×Obj)) (σ:St) (H:Hp) (s:Shared) (e:Value) (s':Shared),Inv X pins σ H s->CX X.stack H s E e s'->X.xe e s'
section
variable {X:Cx}{CX:CXT}{k:Nat}{f C:Addr}{fd:FuncData}{ps:List Str}{sp:Sp}{dvs:List V}{ds:List Value}{E:XK}{x m:Str}{p pos apos:Pos}{e o:Expr}{es:List Expr}{ta:TE}{t:TA}
theorem ac0 {pins:List (Addr×Obj)}{σ:St}{H:Hp}{s:Shared}{Q:VK}{us:List Value}{vs:List V}(F:FnOk X.prog X.w X.K X.mg X.base CX k f fd ps sp)(hr:Room k X.A)(hb:Binds X.K fd ps ds)(hd:Vals dvs ds)(hx:Nj CX X E)
  (I:Inv X pins σ H s) (r:Vals vs us) (h:sp (vs++dvs) H Q E):wpAny (model X.prog X.w) X.A (call (.ref f) us) (EP X pins σ Q) X.xe s:=by
 have r2:Vals (vs++dvs) (us++ds):=r.append hd;have hl:(us++ds).length=ps.length:=by rw[<- r2.length];exact F.len _ _ _ _ h
 refine A4L (A3F (F.run X.A X.stack s H ⟨us,[]⟩ (us++ds) (vs++dvs) Q E hr I.env0 (hb s us I.kIn hl) r2 h) λr s' hq=>?_)
 cases r with
 |error e=>exact hx pins σ H s e s' I hq
 |ok fl=>
   cases fl with
   |ret u=>exact I.after hq
   |next=>exact False.elim hq
   |brk=>exact False.elim hq
   |cont=>exact False.elim hq
theorem Tt (F:FnOk X.prog X.w X.K X.mg X.base CX k f fd ps sp)(hr:Room k X.A)(hg:Gl X x)(hm:X.mg x=some (.ref f))(hk:W.keepIn X.K (.ref f)=true)(hb:Binds X.K fd ps ds)(hd:Vals dvs ds)(hx:Nj CX X E)
  (ha:PA X (e :: es) t) (hdb:(x==("__debug__":Str))=false:=by decide) (he:starEach (e :: es) X.env=(false,eval e X.env) :: starEach es X.env:=by ac_nf) (hpl:(backTo pos (starEach es X.env)).any (·.1)=false:=by ac_nf) :
  PE X (.Call (.Name x p) (e :: es) [] pos) (W4 sp dvs E t):=by
 intro pins s σ H Q I h;refine A2N (L3 I hg hm ?_ hdb);refine W.callWith_K (h₀:=X.base) I.ok.mod.kin hk (thn (ha pos pins s σ H _ I h) λus s1 ⟨vs,H1,I1,r,q⟩=>⟨I1.kIn,?_⟩) he hpl;exact ac0 F hr hb hd hx I1 r q
end
section
variable {X:Cx}{CX:CXT}{k:Nat}{f C:Addr}{fd:FuncData}{ps ks:List Str}{sp:Sp}{E:XK}{x m:Str}{p pos apos kpos:Pos}{e o:Expr}{es:List Expr}{kws:List Keyword}{te ta:TE}{t tk:TA}{nm:Option Str}
variable {g:List Value->List Value->List Value}{gV:List V->List V->List V}
end
structure Ai (N P:List Str)(sc:Scope):Prop where
 kind:sc.kind = .function
 co:sc.isCoroutine=false
 gen:sc.isGenerator=false
 nd:N.Nodup
 pre:N.take P.length=P
 par:∀ x∈P,sc.names.lookup x=some .local\/sc.names.lookup x=some .cell
 nofree:∀ y∈sc.names,y.2 ≠ .free
theorem Mt {kindOf:Str->Option NameKind}{x:Str}:∀ {binds:List (Str×Value)} {m:Str->Option Value},(∀ v,(x,v)∉binds)->bindL kindOf binds m x=m x
 | [],_,_=>rfl
 | (n,v) :: r,m,h=>by
   unfold bindL;rw[Mt λw hw=>h w (A0C _ hw)]
   split
   . have:x≠n:=by rintro rfl;exact h v A0J
     simp[this]
   rfl
theorem Nk {kindOf:Str->Option NameKind}{x:Str}:∀ {binds:List (Str×Value)} {m:Str->Option Value},(∀ v,(x,v)∉binds)->bindC kindOf binds m x=m x
 | [],_,_=>rfl
 | (n,v) :: r,m,h=>by
   unfold bindC;rw[Nk λw hw=>h w (A0C _ hw)]
   split
   . rfl
   have:x≠n:=by rintro rfl;exact h v A0J
   simp[this]
theorem N8 {kindOf:Str->Option NameKind} {x:Str} {v:Value}:∀ {P:List Str} {vs:List Value} {i:Nat} {m:Str->Option Value},P.Nodup->P[i]? = some x->vs[i]? = some v->kindOf x=some .local ->
  bindL kindOf (P.zip vs) m x=some v
 | [],_,_,_,_,h,_,_=>by simp at h
 |_ :: _,[],_,_,_,_,h,_=>by simp at h
 |p :: P,w :: vs,0,m,nd,h1,h2,hk=>by simp at h1 h2;subst h1;subst h2;show bindL kindOf ((p,w) :: P.zip vs) m p=_;unfold bindL;rw[Mt λv hv=>(A0T.mp nd).1 (A4B hv).1,A0Q hk];simp
 |p :: P,w :: vs,i+1,m,nd,h1,h2,hk=>by show bindL kindOf ((p,w) :: P.zip vs) m x=_;unfold bindL;exact N8 (i:=i) (List.nodup_cons.mp nd).2 (by simpa using h1) (by simpa using h2) hk
theorem Nt {kindOf:Str->Option NameKind} {x:Str} {v:Value}:∀ {P:List Str} {vs:List Value} {i:Nat} {m:Str->Option Value},P.Nodup->P[i]? = some x->vs[i]? = some v->kindOf x≠some .local ->
  bindC kindOf (P.zip vs) m x=some v
 | [],_,_,_,_,h,_,_=>by simp at h
 |_ :: _,[],_,_,_,_,h,_=>by simp at h
 |p :: P,w :: vs,0,m,nd,h1,h2,hk=>by simp at h1 h2;subst h1;subst h2;show bindC kindOf ((p,w) :: P.zip vs) m p=_;unfold bindC;rw[Nk λv hv=>(A0T.mp nd).1 (A4B hv).1,A0L hk];simp
 |p :: P,w :: vs,i+1,m,nd,h1,h2,hk=>by show bindC kindOf ((p,w) :: P.zip vs) m x=_;unfold bindC;exact Nt (i:=i) (List.nodup_cons.mp nd).2 (by simpa using h1) (by simpa using h2) hk
def L5 (N:List Str)(vs:List V):St:=vs.map some++List.replicate (N.length-vs.length) none
def V9 (CX:CXT)(P:Program)(w:World)(K:W.Frag)(mg:Str->Option Value)(base:Heap)(N:List Str)(qual:Str)(scope:Scope)(f:Addr)(cd:Value)(A:Around)(outer:List Env)(s:Shared)(H:Hp)(E:XK):Cx where
 prog:=P
 w:=w
 K:=K
 mg:=mg
 base:=base
 A:=A.deeper (envOfC qual scope s.heap.objs.size f cd)
 N:=N
 s₀:=s
 H₀:=H
 env:=envOfC qual scope s.heap.objs.size f cd
 outer:=outer
 stack:=envOfC qual scope s.heap.objs.size f cd :: outer
 ex:=[]
 calm:=true
 fn:=λ_=>true
 pn:=[]
 xe:=λe s'=>wpAny (model P w) (A.deeper (envOfC qual scope s.heap.objs.size f cd)) (leaving (envOfC qual scope s.heap.objs.size f cd) e) (λ_ s''=>CX outer H s E e s'') (λe' s''=>CX outer H s E e' s'') s'
theorem Q5 {sc:Scope}{n:Nat}{x:Str}(h:sc.names.lookup x=some .cell):∃ c,(cellsFrom n sc.names []).lookup x=some c:=by have q:=W.cellsFrom_some sc.names n [] (.inl h);exact Option.isSome_iff_exists.mp q
theorem Tu {CX:CXT}{P:Program}{w:World}{K:W.Frag}{mg:Str->Option Value}{base:Heap}{N ps:List Str}{qual:Str}{scope:Scope}{f:Addr}{cd:Value}{A:Around}{outer:List Env}{s s1:Shared}{H:Hp}{E:XK}{us:List Value}{vs:List V}
  (S:Ai N ps scope) (hd:A.handled=none) (e0:Env0 P w K mg base A outer s H) (hl:vs.length=ps.length) (r:Vals vs us)
  (x:InCallC s s.heap.objs.size (bindL (envOfC qual scope s.heap.objs.size f cd).kindOf (ps.zip us) λ_=>none) (cellsFrom (s.heap.objs.size+1) scope.names []) (bindC (envOfC qual scope s.heap.objs.size f cd).kindOf (ps.zip us) λ_=>none) s1) :
  Inv (V9 CX P w K mg base N qual scope f cd A outer s H E) [] (L5 N vs) H s1:=by
 have hpl:ps.length<=N.length:=by have:=congrArg List.length S.pre;rw[A17] at this;omega
 obtain⟨h1,tk,rfl,hk⟩:=x.done;have noA:∀ b:Addr,b∉(V9 CX P w K mg base N qual scope f cd A outer s H E).ex:=λb z=>absurd (show b∈([]:List Addr) from z) ∅
 refine⟨⟨e0.mod,S.kind,rfl,rfl,A0A _,λy z c h1 h2=>?_,λy hy=>?_,λy c _ h=>?_,λ_=>hd,Around.frames_deeper e0.frames,.inr ⟨rfl,rfl⟩,λb z=>absurd z (noA b),e0.bs,e0.bsz,λb _ _=>noA b,λb z=>absurd z (noA b),e0.funs,e0.frf⟩,
  rfl,e0.bare,Un.kept hk,⟨_,x.toInCall.ns,λi y v h1 h2 h3=>?_⟩,λy c h=>⟨_,x.cell y c h⟩,e0.hok.fresh (A0A _),λy c h=>?_,λp hp=>absurd (show p∈([]:List (Addr×Obj)) from hp) ∅,e0.hok.kept hk,?_⟩
 . exact name_of_addr x.apart (A2G h1) (A2G h2)
 . have hy:scope.names.lookup y=some .cell\/scope.names.lookup y=some .free:=hy;rcases hy with hy|hy
   . exact Q5 hy
   exact absurd rfl (S.nofree _ (A2G hy))
 . exact A2E (x.above y c (A2G h))
 . have hi:i<vs.length:=by
    unfold L5 at h2
    by_cases hi:i<vs.length
    . exact hi
    rw[List.getElem?_append_right (by simpa using hi)] at h2;rw[A34] at h2
    split at h2<;>cases h2
   have ha:vs[i]? = some v:=by
    unfold L5 at h2;rw[List.getElem?_append_left (by simpa using hi),List.getElem?_map] at h2
    cases e:vs[i]? with
    |none=>rw[e] at h2;cases h2
    |some a=>rw[e] at h2;cases h2;rfl
   obtain⟨u,hu,rv⟩:=r.get ha
   have hp:ps[i]? = some y:=by rw[<- S.pre,List.getElem?_take_of_lt (by omega)];exact h1
   have ndP:ps.Nodup:=by rw[<- S.pre];exact S.nd.sublist (List.take_sublist _ _)
   refine⟨u,rv,?_⟩;rcases S.par y (A06 hp) with k|k
   . exact .inl ⟨k,N8 ndP hp hu k⟩
   obtain⟨c,e⟩:=Q5 (n:=s.heap.objs.size+1) k;refine .inr ⟨.inl k,c,e,?_⟩;have q:=x.cell y c e;rw[Nt ndP hp hu (by show scope.names.lookup y≠_;rw[k];decide)] at q;exact q
 . exact e0.hok.fresh (A2E (x.above y c (A2G h)))
 unfold L5;show _=N.length;rw[A0H,A05,A1B];omega
theorem a84 {CX:CXT}{P:Program}{w:World}{K:W.Frag}{mg:Str->Option Value}{base:Heap}{k:Nat}{f:Addr}{name qual:Str}{params:Arguments}{body:List Stmt}{scope:Scope}{dV kV doc pm cdv ct oc:Value}{an od:Option Addr}
  {osl:Array (Option Value)} {N ps:List Str} {sp:Sp} (lk:K.lookup f=some ⟨oc,od,.func (W.fnOf name qual params body scope dV kV doc pm an cdv ct),osl⟩) (hcd:W.codeIn K cdv qual=true) (S:Ai N ps scope)
  (len:∀ vs H Q E,sp vs H Q E->vs.length=ps.length)
  (hbody:∀(A:Around) (outer:List Env) (s:Shared) (H:Hp) (vs:List V) (Q:VK) (E:XK),Room k (A.deeper (envOfC qual scope s.heap.objs.size f cdv))->sp vs H Q E ->
   ∃ t,PSs (V9 CX P w K mg base N qual scope f cdv A outer s H E) body t/\t {nx:=λ_ H'=>Q .non H',rt:=Q} (L5 N vs) H) :
  FnOk P w K mg base CX (k+1) f (W.fnOf name qual params body scope dV kV doc pm an cdv ct) ps sp:=by
 refine⟨len,λA outer s H args us vs Q E hr e0 hb r hsp=>?_⟩;have hl:=len _ _ _ _ hsp;have KX:K.In s.heap:=e0.mod.kin.keeps λb o e=>(e0.bs b o e).1;have lim:s.heap.NoLimit:=e0.mod.nolimit.keeps λb o e=>(e0.bs b o e).1
 have hkind:∀ y∈ps.zip us,scope.names.lookup y.1=some .local\/(scope.names.lookup y.1=some .cell/\((cellsFrom (s.heap.objs.size+1) scope.names []).lookup y.1).isSome=true):=λ⟨n,v⟩ hy=>by
  rcases S.par n (A4B hy).1 with q|q
  . exact .inl q
  exact .inr ⟨q,W.cellsFrom_some _ _ _ (.inl q)⟩
 refine codeAny_call_function hr.depth (KX _ _ lk) rfl S.co S.gen rfl (W.codeRec_of KX hcd) (hb _ _ _ _ ?_);refine wpAny_newFunctionEnv_cells S.kind hkind λenv he s1 x=>?_;subst he;refine⟨lim.keeps x.toInCall.keep,codeAny_func ?_⟩;obtain⟨t,ht,hq⟩:=hbody A outer s H vs Q E (hr.deeper _) hsp;have I:Inv (V9 CX P w K mg base N qual scope f cdv A outer s H E) [] (L5 N vs) H s1:=Tu S hr.hd e0 hl r x;refine A1X (ht [] s1 (L5 N vs) H _ I hq) (λfl s' hs=>?_) λe s' hs=>hs
 have fin:∀ {σ':St} {H':Hp} {v:V} {u:Value},Inv (V9 CX P w K mg base N qual scope f cdv A outer s H E) [] σ' H' s'->RelV v u->Q v H'->CE outer P w H s Q u s':=
  fun {σ' H' v u} J rv q=>⟨v,H',J.os,J.bare,J.base,J.hok,rv,q⟩
 cases fl with
 |ret u=>obtain⟨v,σ',H',J,rv,q⟩:=hs;exact fin J rv q
 |next=>obtain⟨σ',H',J,q⟩:=hs;exact fin (v:=V.non) (u:=Value.none) J rfl q
 |brk=>obtain⟨_,_,_,q⟩:=hs;exact False.elim q
 |cont=>obtain⟨_,_,_,q⟩:=hs;exact False.elim q
section
variable {X:Cx}{x:Str}{p pos:Pos}{e:Expr}{es:List Expr}{t:TA}{id T:String}{r:List V->Hp->VK->Prop}
def tCB (r:List V->Hp->VK->Prop)(t:TA):TE:=fun σ H Q=>t σ H λvs H1=>r vs H1 Q
theorem A8 (hc:CallR X (.builtin id) r)(hg:Gl X x)(hm:X.mg x=none)(hv:bootBuiltins x=some (.builtin id))(ha:PA X (e :: es) t)(hn:x ≠ "__name__":=by decide)(hdb:(x==("__debug__":Str))=false:=by decide)
  (he:starEach (e :: es) X.env=(false,eval e X.env) :: starEach es X.env:=by ac_nf) (hpl:(backTo pos (starEach es X.env)).any (·.1)=false:=by ac_nf):PE X (.Call (.Name x p) (e :: es) [] pos) (tCB r t):=by
 intro pins s σ H Q I h;refine A2N (Hr I hg hm hv ?_ hn hdb);exact PyProof.Rows.callWith_builtin1 (thn (ha pos pins s σ H _ I h) λus s1 ⟨vs,H1,I1,r1,q1⟩=>hc pins s1 σ H1 vs us Q I1 r1 q1) he hpl
theorem Iw (hc:CallR X (.type T) r)(hg:Gl X x)(hm:X.mg x=none)(hv:bootBuiltins x=some (.type T))(ha:PA X (e :: es) t)(hn:x ≠ "__name__":=by decide)(hdb:(x==("__debug__":Str))=false:=by decide)
  (he:starEach (e :: es) X.env=(false,eval e X.env) :: starEach es X.env:=by ac_nf) (hpl:(backTo pos (starEach es X.env)).any (·.1)=false:=by ac_nf):PE X (.Call (.Name x p) (e :: es) [] pos) (tCB r t):=by
 intro pins s σ H Q I h;refine A2N (Hr I hg hm hv ?_ hn hdb);exact A22 (thn (ha pos pins s σ H _ I h) λus s1 ⟨vs,H1,I1,r1,q1⟩=>hc pins s1 σ H1 vs us Q I1 r1 q1) he hpl
end
end L2
namespace HT
open PySem PyProof.Rows
section
open PySem.SeqAt
open PySem.AutoSeq1 (wpAny_loadPart')
open PySem.MeetsSeq PySem.MeetsSeq2 PySem.MeetsSeq3
end
section
variable {prog:Program}{w:World}{A:Around}{E:Value->Shared->Prop}{s:Shared}
theorem cat_tup {t b:Addr}{vs ws:List Value}{Q:Value->Shared->Prop}(ht:IsTup s.heap t vs.toArray)(hb:IsTup s.heap b ws.toArray)(hv:vs≠[])
  (h1:ws=[]->Q (.ref t) s) (h2:ws≠[]->Q (.ref s.heap.objs.size) {s with heap:=s.heap.push {cls:=.type "tuple",data:=.seq (vs++ws).toArray}})
  (hsz:vs.length+ws.length<=sizeLine):wpAny (model prog w) A (binaryOp .Add (.ref t) (.ref b)) Q E s:=by
 obtain⟨⟨cls,dd,data,sl⟩,ho,hc,n,hd⟩:=id ht;obtain⟨⟨cls2,dd2,data2,sl2⟩,ho2,hc2,n2,hd2⟩:=id hb;simp only at hc hd hc2 hd2;subst hc hd hc2 hd2;have e:vs.toArray++ws.toArray=(vs++ws).toArray:=by simp
 by_cases hw:ws=[]
 . exact concat_meets ⟨_,ho,rfl⟩ ⟨_,ho2,rfl⟩ noFill_tuple_add seq_tuple_add A47 A43 (A3T _ _)
    (tuple_addW1 t b vs.toArray ws.toArray n n2 dd dd2 sl sl2 (by simpa using hv) (by simp[hw])) ⟨ho,ho2,h1 hw⟩
 refine concat_meets ⟨_,ho,rfl⟩ ⟨_,ho2,rfl⟩ noFill_tuple_add seq_tuple_add A47 A43 (A3T _ _)
  (tuple_addW2 t b vs.toArray ws.toArray n n2 dd dd2 sl sl2 (by simpa using hv) (by simpa using hw) (by rw[List.size_toArray,List.size_toArray];exact hsz)) ⟨ho,ho2,?_⟩
 rw[e];exact h2 hw
def sIx (n d:Nat):Option Int->Nat
 |none=>d
 |some v=>if v<0 then(v+(n:Int)).toNat else min v.toNat n
theorem a97 (n d:Nat)(hd:d<=n)(o:Option Int):sIx n d o<=n:=by
 cases o with
 |none=>exact hd
 |some v=>
   show(if v<0 then(v+(n:Int)).toNat else min v.toNat n)<=n
   by_cases hv:v<0
   . rw[A0Q hv];omega
   rw[A0L hv];exact A3G _ _
theorem Sk (v:Int)(n d:Nat):(if v<0 then max (v+(n:Int)) 0 else min v (n:Int))=((sIx n d (some v):Nat):Int):=by
 show(if v<0 then max (v+(n:Int)) 0 else min v (n:Int))=(((if v<0 then(v+(n:Int)).toNat else min v.toNat n):Nat):Int)
 by_cases hv:v<0
 . simp only[if_pos hv];omega
 simp only[if_neg hv];omega
theorem Qg (lo hi:Option Int)(n:Nat):Builtin.Slice.sliceAdjust lo hi 1 (n:Int)=(((sIx n 0 lo:Nat):Int),((sIx n n hi:Nat):Int)):=by
 have h1:¬ ((1:Int)<0):=by omega
 unfold Builtin.Slice.sliceAdjust;simp only[h1,if_false];refine Prod.ext ?_ ?_
 . cases lo with
   |none=>rfl
   |some v=>exact Sk v n 0
 cases hi with
 |none=>rfl
 |some v=>exact Sk v n n
theorem R4 (i j:Nat):Builtin.Slice.slicePlaces (i:Int) (j:Int) 1=j-i:=by
 unfold Builtin.Slice.slicePlaces;have h1:(1:Int)>0:=by omega
 simp only[h1,if_true,Int.ediv_one]
 split<;>omega
theorem Ku {v:Value}{o:Option Int}{Q:Option Int->Shared->Prop}(p:IsPart v o)(h:Q o s):wpAny (model prog w) A (Builtin.Slice.slicePartIndex v) Q E s:=by
 cases p with
 |none=>exact slicePart_none h
 |int i t=>exact slicePart_int h
theorem sliceApplied_gen {sl:Addr}{vl vu:Value}{lo hi:Option Int}{n:Nat}{Q:Int×Int×Nat->Shared->Prop}(hs:s.heap.IsSliceOf sl vl vu .none)(pl:IsPart vl lo)(pu:IsPart vu hi)
  (h:Q (((sIx n 0 lo:Nat):Int),1,sIx n n hi-sIx n 0 lo) s):wpAny (model prog w) A (Builtin.Slice.sliceApplied (.ref sl) (pure (n:Int))) Q E s:=by
 obtain⟨os,hos,hcs,hds⟩:=id hs;unfold Builtin.Slice.sliceApplied Builtin.Slice.sliceFields;refine A00 (A00 (A16 hos hds (x:=vl) rfl (A00 (A16 hos hds (x:=vu) rfl (A00 (A16 hos hds (x:=.none) rfl (A04 ?_)))))));refine A00 (slicePart_none ?_);show wpAny _ _ (if((1:Int)==0)=true then _ else _) _ _ s
 rw[A0L nofun];refine A00 (Ku pl (A00 (Ku pu (A00 (A04 ?_)))));show wpAny _ _ (match Builtin.Slice.sliceAdjust lo hi 1 (n:Int) with | (lo,hi)=>pure (lo,(1:Int),Builtin.Slice.slicePlaces lo hi 1)) _ _ s
 rw[Qg lo hi n];show wpAny _ _ (pure (((sIx n 0 lo:Nat):Int),(1:Int),Builtin.Slice.slicePlaces ((sIx n 0 lo:Nat):Int) ((sIx n n hi:Nat):Int) 1)) _ _ s;rw[R4];exact A04 h
theorem Vh (xs:Array Value)(i k:Nat):((List.range k).filterMap λ(m:Nat)=>xs[((i:Int)+(m:Int)*1).toNat]?).toArray=((xs.toList.drop i).take k).toArray:=by
 have e:(λ(m:Nat)=>xs[((i:Int)+(m:Int)*1).toNat]?)=λm=>xs[i+m]?:=by
  funext m;have:((i:Int)+(m:Int)*1).toNat=i+m:=by omega
  rw[this]
 rw[e];have:=pick_run xs i k;rw[List.filterMap_map] at this;have e2:((λx=>xs[x]?)∘λx=>i+x)=λm=>xs[i+m]?:=rfl;rw[e2] at this;rw[this]
theorem getItem_tuple_cut {t sl:Addr}{items:Array Value}{vl vu:Value}{lo hi:Option Int}{Q:Value->Shared->Prop}(ht:IsTup s.heap t items)(hs:s.heap.IsSliceOf sl vl vu .none)(pl:IsPart vl lo)(pu:IsPart vu hi)
  (hw:¬ (sIx items.size 0 lo=0/\sIx items.size items.size hi=items.size))
  (h:Q (.ref s.heap.objs.size) {s with heap:=s.heap.push {cls:=.type "tuple",data:=.seq ((items.toList.drop (sIx items.size 0 lo)).take (sIx items.size items.size hi-sIx items.size 0 lo)).toArray}})
  (hsz:items.size<=sizeLine):wpAny (model prog w) A (getItem (.ref t) (.ref sl)) Q E s:=by
 have htake:sizeOk (.seq ((items.toList.drop (sIx items.size 0 lo)).take (sIx items.size items.size hi-sIx items.size 0 lo)).toArray):=by show((items.toList.drop (sIx items.size 0 lo)).take (sIx items.size items.size hi-sIx items.size 0 lo)).toArray.size<=sizeLine;rw[A0N,A17,A24,A30];omega
 have hj:sIx items.size items.size hi<=items.size:=a97 _ _ (A0A _) hi;obtain⟨os,hos,hcs,hds⟩:=id hs;have hTs:s.TypeIs (.ref sl) "slice":=⟨os,hos,hcs⟩;unfold getItem
 try with_reducible refine A1P ?_
 first | refine A00 (A04 ?_) | skip
 refine A00 (wpAny_sequenceKey ht.typeIs nofun ?_)
 refine A00 (A2H (name:=Str.ofString "__getitem__") ht.typeIs A29
  (A2Z A29 ht.typeIs entry_tuple_getitem ?_ (args_tuple_getitem _ _)))
 show wpAny _ _ (Builtin.Tuple.tupleItemsOf (.ref t) >>= _) _ _ s;refine A00 (tupleItemsOf_ ht ?_);refine A00 (A4C hTs ?_);rw[A0Q nofun];refine A00 (sliceApplied_gen hs pl pu ?_)
 have hno:¬ ((((sIx items.size 0 lo:Nat):Int)==0&&(1:Int)==1&&(sIx items.size items.size hi-sIx items.size 0 lo)==items.size)=true):=by intro q;rw[A0Z,A0Z] at q;have q1:((sIx items.size 0 lo:Nat):Int)=0:=eq_of_beq q.1.1;have q2:sIx items.size items.size hi-sIx items.size 0 lo=items.size:=eq_of_beq q.2;exact hw ⟨by omega,by omega⟩
 show wpAny _ _ (if(((sIx items.size 0 lo:Nat):Int)==0&&(1:Int)==1&&(sIx items.size items.size hi-sIx items.size 0 lo)==items.size)=true then _ else _) _ _ s
 rw[A0L hno,Vh]
 first
  |exact A00 (m:=Builtin.Tuple.tupleExact _) (A20 (A04 ⟨_,rfl,A04 h⟩) htake)
  |exact A00 (m:=Builtin.Tuple.tupleExact _) (A20 (A00 (A04 (A04 ⟨_,rfl,A04 h⟩))) htake)
  |exact A00 (A00 (m:=Builtin.Tuple.tupleExact _) (A20 (A04 (A04 ⟨_,rfl,A04 h⟩)) htake))
  |exact A00 (A00 (m:=Builtin.Tuple.tupleExact _) (A20 (A04 ⟨_,rfl,A04 h⟩) htake))
end
end HT
namespace L2
open PySem PySem.Spec PyProof.Rows
abbrev TO:=St->Hp->(Option Int->Hp->Prop)->Prop
def PO (X:Cx)(e:Option Expr)(t:TO):Prop:=
 ∀(pins:List (Addr×Obj)) (s:Shared) (σ:St) (H:Hp) (Q:Option Int->Hp->Prop),Inv X pins σ H s->t σ H Q ->
  wpAny (model X.prog X.w) X.A (evalPart e X.env) (λu s'=>∃ o H',Inv X pins σ H' s'/\IsPart u o/\Q o H') X.xe s
def V3:TO:=λ_ H Q=>Q none H
def ai1 (t:TE):TO:=fun σ H Q=>t σ H λx H1=>∃ i,x = .int i/\Q (some i) H1
section
variable {X:Cx}{e:Expr}{te:TE}{lo hi:Option Expr}{tl th:TO}{pos p2:Pos}
theorem Fh:PO X none V3:=by intro pins s σ H Q I h;rw[evalPart_none];exact A04 ⟨none,H,I,.none,h⟩
theorem C8 (h:PE X e te):PO X (some e) (ai1 te):=by intro pins s σ H Q I hw;rw[evalPart_some];refine thn (h pins s σ H _ I hw) λu s1 ⟨x,H1,I1,r1,q1⟩=>?_;obtain⟨i,rfl,q⟩:=q1;obtain⟨t,rfl⟩:=r1;exact⟨some i,H1,I1,.int i t,q⟩
def SlR (X:Cx)(r:V->Option Int->Option Int->Hp->VK->Prop):Prop:=
 ∀(pins:List (Addr×Obj)) (s:Shared) (σ:St) (H:Hp) (x:V) (v vl vu:Value) (lo hi:Option Int) (sl:Addr) (Q:VK),Inv X pins σ H s->RelV x v->s.heap.IsSliceOf sl vl vu .none->IsPart vl lo->IsPart vu hi->r x lo hi H Q ->
  ∃ T id,typeLookup (.type T) "__getitem__" = pure (some (.builtin id))/\s.TypeIs v T/\wpAny (model X.prog X.w) X.A (getItem v (.ref sl)) (EP X pins σ Q) X.xe s
theorem SlR.or {r r':V->Option Int->Option Int->Hp->VK->Prop}(h:SlR X r)(h':SlR X r'):SlR X (λx lo hi H Q=>r x lo hi H Q\/r' x lo hi H Q):=by
 intro pins s σ H x v vl vu lo hi sl Q I rx hs pl pu q;rcases q with q|q
 . exact h pins s σ H x v vl vu lo hi sl Q I rx hs pl pu q
 exact h' pins s σ H x v vl vu lo hi sl Q I rx hs pl pu q
def tSl (r:V->Option Int->Option Int->Hp->VK->Prop)(te:TE)(tl th:TO):TE:=fun σ H Q=>te σ H λx H1=>tl σ H1 λl H2=>th σ H2 λu H3=>r x l u H3 Q
theorem Cd {r:V->Option Int->Option Int->Hp->VK->Prop}(hr:SlR X r)(he:PE X e te)(hl:PO X lo tl)(hu:PO X hi th):PE X (.Subscript e (.Slice lo hi none p2) pos) (tSl r te tl th):=by
 intro pins s σ H Q I h;refine Subscript_ (thn (he pins s σ H _ I h) λv s1 ⟨x,H1,I1,r1,q1⟩=>?_);refine wpAny_Slice (thn (hl pins s1 σ H1 _ I1 q1) λvl s2 ⟨l,H2,I2,pl,q2⟩=>thn (hu pins s2 σ H2 _ I2 q2) λvu s3 ⟨u,H3,I3,pu,q3⟩=>?_);rw[evalPart_none];refine A04 ?_;have I4:Inv X pins σ H3 {s3 with heap:=s3.heap.push {cls:=.type "slice",data:=.fields #[vl,vu,.none]}}:=I3.kept (t':=s3.toks) λb ob q=>A01 _ q
 obtain⟨T,id,hT,ht,hg⟩:=hr pins {s3 with heap:=s3.heap.push {cls:=.type "slice",data:=.fields #[vl,vu,.none]}} σ H3 x v vl vu l u s3.heap.objs.size Q I4 r1 (Heap.IsSliceOf.new ..) pl pu q3
 show wpAny (model X.prog X.w) X.A (subscriptTail e (.Slice lo hi none p2) v (.ref s3.heap.objs.size)) (EP X pins σ Q) X.xe {s3 with heap:=s3.heap.push {cls:=.type "slice",data:=.fields #[vl,vu,.none]}}
 exact tail_any (ops:=[.ref s3.heap.objs.size,v]) ht hT hg ⋯
def O7 (xs:List V)(lo hi:Option Int):List V:=(xs.drop (HT.sIx xs.length 0 lo)).take (HT.sIx xs.length xs.length hi-HT.sIx xs.length 0 lo)
theorem Jp (xs:List V)(lo hi:Option Int):(O7 xs lo hi).length<=xs.length:=by unfold O7;rw[A17,A24];omega
def ar8 (K:W.Frag):V->Option Int->Option Int->Hp->VK->Prop:=λx lo hi H Q=>∃ a xs,x = .ref a/\SqT K H a xs /\
 ¬ (HT.sIx xs.length 0 lo=0/\HT.sIx xs.length xs.length hi=xs.length)/\∀ p,H p=none->Q (.ref p) (upd H p (.tup (O7 xs lo hi)))
theorem sl_tup:SlR X (ar8 X.K):=by
 intro pins s σ H x v vl vu lo hi sl Q I rx hs pl pu h;obtain⟨a,xs,rfl,hx,hw,q⟩:=h
 cases rx;obtain⟨its,r,ht,hz⟩:=I.tuple hx;have hlen:its.toArray.size=xs.length:=by rw[A0N];exact r.length.symm
 refine⟨"tuple",_,PyProof.Rows.slot_tuple_getitem.lookup,ht.typeIs,?_⟩;refine HT.getItem_tuple_cut ht hs pl pu (by rw[hlen];exact hw) ?_ (by rw[hlen];exact hz);rw[hlen];refine⟨.ref s.heap.objs.size,_,I.laid (t':=s.toks) (o:=.tup (O7 xs lo hi)) (λb ob q=>A01 _ q) (A0A _) ?_,rfl,q _ (I.hok.fresh (A0A _))⟩;exact⟨A0P (Jp xs lo hi) hz,_,(r.drop (HT.sIx xs.length 0 lo)).take (HT.sIx xs.length xs.length hi-HT.sIx xs.length 0 lo),IsTupN.new _ _⟩
def ac6 (K:W.Frag):R2:=λx y H Q=>∃ a b xs ys,x = .ref a/\y = .ref b/\SqT K H a xs/\SqT K H b ys/\xs≠[]/\xs.length+ys.length<=sizeLine /\
 (ys=[]->Q (.ref a) H)/\(ys≠[]->∀ p,H p=none->Q (.ref p) (upd H p (.tup (xs++ys))))
theorem Vals.nil_iff {xs:List V}{us:List Value}(r:Vals xs us):us=[]↔xs=[]:=by
 cases r with
 |nil=>simp
 |cons _ _=>simp
theorem op_catT:OpR X (binaryOp .Add) (ac6 X.K):=by
 intro pins s σ H x y v u Q I rx ry h;obtain⟨a,b,xs,ys,rfl,rfl,ha,hb,hx,hz,q1,q2⟩:=h
 cases rx
 cases ry;obtain⟨its,r1,p1,_⟩:=I.tuple ha;obtain⟨its2,r2,p2,_⟩:=I.tuple hb;refine HT.cat_tup p1 p2 (λz=>hx (r1.nil_iff.mp z)) (λz=>⟨.ref a,H,I,rfl,q1 (r2.nil_iff.mp z)⟩) (λz=>?_) (by rw[<- r1.length,<- r2.length];exact hz);refine⟨.ref s.heap.objs.size,_,I.laid (t':=s.toks) (o:=.tup (xs++ys)) (λb ob q=>A01 _ q) (A0A _) ?_,rfl,q2 (λw=>z (r2.nil_iff.mpr w)) _ (I.hok.fresh (A0A _))⟩;exact⟨by rw[A0H];exact hz,_,r1.append r2,IsTupN.new _ _⟩
end
def ixN (n:Nat)(i:Int):Option Nat:=if 0<=i then(if i<n then some i.toNat else none) else if -(n:Int)<=i then some (i+n).toNat else none
def atI {α:Type}(xs:List α)(i:Int):Option α:=(ixN xs.length i).bind λj=>xs[j]?
theorem a15 {n:Nat}{i:Int}{j:Nat}(h:ixN n i=some j):seqIndex? i n=some j/\j<n /\ -(n:Int)<=i/\i<n:=by
 unfold ixN at h
 by_cases h0:0<=i
 . rw[A0Q h0] at h
   by_cases h1:i<n
   . rw[A0Q h1] at h;have e:i.toNat=j:=A0X h;exact⟨by rw[seqIndex_of h0 h1,e],by omega,by omega,h1⟩
   rw[A0L h1] at h;cases h
 rw[A0L h0] at h
 by_cases h1:-(n:Int)<=i
 . rw[A0Q h1] at h;have e:(i+n).toNat=j:=A0X h;exact⟨by rw[seqIndex_neg (by omega) h1,e],by omega,h1,by omega⟩
 rw[A0L h1] at h;cases h
theorem Lj {α:Type} {xs:List α} {i:Int} {v:α} (h:atI xs i=some v):∃ j,seqIndex? i xs.length=some j/\xs[j]? = some v/\j<xs.length /\ -(xs.length:Int)<=i/\i<xs.length:=by
 unfold atI at h
 cases e:ixN xs.length i with
 |none=>rw[e] at h;cases h
 |some j=>rw[e] at h;obtain⟨h1,h2,h3,h4⟩:=a15 e;exact⟨j,h1,h,h2,h3,h4⟩
theorem B0 {α:Type}{xs:List α}{j:Nat}{v:α}(h:xs[j]? = some v):atI xs (j:Int)=some v:=by
 have hj:j<xs.length:=(A02.mp h).1
 have e:ixN xs.length (j:Int)=some j:=by unfold ixN;rw[if_pos (by omega),if_pos (by omega)];simp
 unfold atI;rw[e];exact h
def a19 (b:Expr):Prop:=∀ o i,subscripted b false o i=operate [o,i] (getItem o i)
def IxR (X:Cx)(r:R2):Prop:=
 ∀(value slice:Expr) (pins:List (Addr×Obj)) (s:Shared) (σ:St) (H:Hp) (x y:V) (v u:Value) (Q:VK),Inv X pins σ H s->RelV x v->RelV y u->r x y H Q ->
  subscripted slice false v u=operate [v,u] (getItem v u)->wpAny (model X.prog X.w) X.A (subscriptTail value slice v u) (EP X pins σ Q) X.xe s
def MtR (X:Cx)(id:String)(r:V->List V->Hp->VK->Prop):Prop:=
 ∀(pins:List (Addr×Obj)) (s:Shared) (σ:St) (H:Hp) (x:V) (xs:List V) (v:Value) (us:List Value) (Q:VK),Inv X pins σ H s->RelV x v->Vals xs us->r x xs H Q ->
  wpAny (model X.prog X.w) X.A (call (.builtin id) (v :: us)) (EP X pins σ Q) X.xe s
section
variable {X:Cx}{a b:Expr}{ta tb:TE}{pos:Pos}
theorem IxR.or {r r':R2}(h:IxR X r)(h':IxR X r'):IxR X (λx y H Q=>r x y H Q\/r' x y H Q):=by
 intro value slice pins s σ H x y v u Q I rx ry q hs;rcases q with q|q
 . exact h value slice pins s σ H x y v u Q I rx ry q hs
 exact h' value slice pins s σ H x y v u Q I rx ry q hs
theorem MtR.or {id:String}{r r':V->List V->Hp->VK->Prop}(h:MtR X id r)(h':MtR X id r'):MtR X id (λx xs H Q=>r x xs H Q\/r' x xs H Q):=by
 intro pins s σ H x xs v us Q I rx rs q;rcases q with q|q
 . exact h pins s σ H x xs v us Q I rx rs q
 exact h' pins s σ H x xs v us Q I rx rs q
theorem Ah {r:R2}(hr:IxR X r)(ha:PE X a ta)(hb:PE X b tb)(hs:a19 b):PE X (.Subscript a b pos) (tOp r ta tb):=by intro pins s σ H Q I h;exact Subscript_ (an8 ha hb I h λv u s2 x y H2 I2 rx ry q=>hr a b pins s2 σ H2 x y v u Q I2 rx ry q (hs _ _))
def aq5 (K:W.Frag):R2:=λx y H Q=>∃ p xs i v,x = .ref p/\y = .int i/\SqL K H p xs/\atI xs i=some v/\Q v H
def as8 (K:W.Frag):R2:=λx y H Q=>∃ p xs i v,x = .ref p/\y = .int i/\SqT K H p xs/\atI xs i=some v/\Q v H
def at3:R2:=λx y H Q=>∃ z i c,x = .str z/\y = .int i/\z.length<=sizeLine/\atI z.cps.toList i=some c/\Q (.str ⟨#[c]⟩) H
theorem ix_list:IxR X (aq5 X.K):=by
 intro value slice pins s σ H x y v u Q I rx ry h hs;obtain⟨p,xs,i,z,rfl,rfl,hq,he,q⟩:=h
 cases rx;obtain⟨t,rfl⟩:=ry;obtain⟨its,r,pl,hz⟩:=I.list hq;obtain⟨j,h1,h2,h3,h4,h5⟩:=Lj he;obtain⟨w,ew,rw'⟩:=r.get h2;have hl:=r.length;have hn:=Q7;have fin:EP X pins σ Q w s:=⟨z,H,I,rw',q⟩
 by_cases h0:0<=i
 . have hj:i.toNat=j:=by rw[seqIndex_of h0 h5] at h1;exact A0X h1
   exact item_listR pl.isList h0 (by omega) (by rw[hj];simpa using ew) fin hs
 have hj:(i+(its.toArray.size:Int)).toNat=j:=by rw[seqIndex_neg (by omega) h4] at h1;rw[A0N,<- hl];exact A0X h1
 exact subscriptTail_builtinR (x:=w) pl.isList.typeIs slot_list_getitem.lookup
  (wpAny_getItem_list_neg (Q:=λr s'=>r=w/\EP X pins σ Q r s') pl.isList (by omega) (by rw[List.size_toArray]<;>omega) (by omega) (by rw[hj];simpa using ew) ⟨rfl,fin⟩) hs
theorem ix_tup:IxR X (as8 X.K):=by
 intro value slice pins s σ H x y v u Q I rx ry h hs;obtain⟨p,xs,i,z,rfl,rfl,hq,he,q⟩:=h
 cases rx;obtain⟨t,rfl⟩:=ry;obtain⟨its,r,pl,hz⟩:=I.tuple hq;obtain⟨j,h1,h2,h3,h4,h5⟩:=Lj he;obtain⟨w,ew,rw'⟩:=r.get h2;have hl:=r.length;have hn:=Q7;have fin:EP X pins σ Q w s:=⟨z,H,I,rw',q⟩
 exact subscriptTail_builtinR (x:=w) pl.typeIs slot_tuple_getitem.lookup
  (getItem_tuple (j:=j) (Q:=λr s'=>r=w/\EP X pins σ Q r s') pl (by omega) (by omega) (by rw[List.size_toArray,<- hl];exact h1) (by simpa using ew) ⟨rfl,fin⟩) hs
theorem ad0:IxR X at3:=by
 intro value slice pins s σ H x y v u Q I rx ry h hs;obtain⟨z,i,c,rfl,rfl,hz,he,q⟩:=h;obtain⟨t,rfl⟩:=rx;obtain⟨t',rfl⟩:=ry;obtain⟨j,h1,h2,h3,h4,h5⟩:=Lj he;have hl:z.cps.toList.length=z.length:=by simp[Str.length]
 rw[hl] at h1 h4 h5;have hn:=Q7
 exact tail_any (typeIs_str s z t) slot_str_getitem.lookup (getItem_str (c:=c) (by have e1:decide (i < -(2 ^ 63:Int))=false:=A0R (by omega);have e2:decide (i>=2 ^ 63)=false:=A0R (by omega);rw[e1,e2,Bool.or_false]) (by rw[h1];simpa using h2) ⟨.str ⟨#[c]⟩,H,I.tok _,⟨_,rfl⟩,q⟩) hs
def rIx (K:W.Frag):R2:=λx y H Q=>aq5 K x y H Q\/as8 K x y H Q\/at3 x y H Q
theorem ix_seq:IxR X (rIx X.K):=ix_list.or (ix_tup.or ad0)
theorem Inv.lst {pins:List (Addr×Obj)}{σ:St}{H:Hp}{s:Shared}{p:Addr}{xs:List V}(I:Inv X pins σ H s)(h:H p=some (.lst xs)) :
  ∃(its:List Value) (n:Nat),Vals xs its/\s.heap.get? p=some {cls:=.type "list",data:=.seq its.toArray n}/\xs.length<=sizeLine:=by
 obtain⟨z,its,n,r,e⟩:=I.hok p _ h;exact⟨its,n,r,e,z⟩
theorem Mm (lo hi:Option Int) (n:Nat):(sliceBounds lo hi none n).1=((HT.sIx n 0 lo:Nat):Int)/\(sliceBounds lo hi none n).2.1=((HT.sIx n n hi:Nat):Int)/\(sliceBounds lo hi none n).2.2=1:=by
 refine⟨?_,?_,rfl⟩
 . cases lo with
   |none=>simp[sliceBounds,HT.sIx]
   |some i=>
     simp only[sliceBounds,HT.sIx,Option.getD_none,show(1:Int)>0 by decide,if_true]
     by_cases h:i<0
     . simp only[h,if_true]<;>omega
     simp only[h,if_false]<;>omega
 cases hi with
 |none=>simp[sliceBounds,HT.sIx]
 |some i=>
   simp only[sliceBounds,HT.sIx,Option.getD_none,show(1:Int)>0 by decide,if_true]
   by_cases h:i<0
   . simp only[h,if_true]<;>omega
   simp only[h,if_false]<;>omega
theorem L9 (its:List Value)(lo hi:Option Int):slicePick its.toArray lo hi none=((its.drop (HT.sIx its.length 0 lo)).take (HT.sIx its.length its.length hi-HT.sIx its.length 0 lo)).toArray:=by obtain⟨h1,h2,h3⟩:=Mm lo hi its.toArray.size;unfold slicePick;rw[h1,h2,h3];simp only[sliceRange_one,pick_run,List.size_toArray]<;>rfl
def ar7 (K:W.Frag):V->Option Int->Option Int->Hp->VK->Prop:=λx lo hi H Q=>∃ a xs,x = .ref a/\SqL K H a xs/\∀ p,H p=none->Q (.ref p) (upd H p (.lst (O7 xs lo hi)))
theorem sl_list:SlR X (ar7 X.K):=by
 intro pins s σ H x v vl vu lo hi sl Q I rx hs pl pu h;obtain⟨a,xs,rfl,hx,q⟩:=h
 cases rx;obtain⟨its,r,ht,hz⟩:=I.list hx;have hlen:=r.length;refine⟨"list",_,slot_list_getitem.lookup,ht.isList.typeIs,?_⟩;refine wpAny_getItem_list_slice ht.isList hs pl pu .none ∅ ?_ (by rw[A0N]<;>omega)
 rw[L9,<- hlen];refine⟨.ref s.heap.objs.size,_,I.laid (t':=s.toks) (o:=.lst (O7 xs lo hi)) (λb ob q=>A01 _ q) (A0A _) ?_,rfl,q _ (I.hok.fresh (A0A _))⟩;exact⟨A0P (Jp xs lo hi) hz,_,0,(r.drop (HT.sIx xs.length 0 lo)).take (HT.sIx xs.length xs.length hi-HT.sIx xs.length 0 lo),A0E _ rfl⟩
def M7:V->Bool
 |.non=>true
 |.bl _=>true
 |.int _=>true
 |.str _=>true
 |_=>false
def eqV:V->V->Bool
 |.non,.non=>true
 |.bl a,.bl b=>a==b
 |.bl a,.int b=>(if a then 1 else 0)==b
 |.int a,.bl b=>a==(if b then 1 else 0)
 |.int a,.int b=>a==b
 |.str a,.str b=>a==b
 |_,_=>false
theorem a96 {A:Around}{s:Shared}{y x:V}{u v:Value}(ry:RelV y u)(rx:RelV x v)(fy:M7 y=true)(fx:M7 x=true):SeqAt.EqAt A s u v (eqV y x):=by
 cases y with
 |non=>
   cases ry
   cases x with
   |non=>cases rx;exact SeqAt.EqAt.same _
   |bl b=>cases rx;exact SeqAt.EqAt.none_bool b
   |int b=>obtain⟨t,rfl⟩:=rx;exact SeqAt.EqAt.none_int b t
   |str b=>obtain⟨t,rfl⟩:=rx;exact SeqAt.EqAt.none_str b t
   |_=>exact absurd (show false=true from fx) A0B
 |bl a=>
   cases ry
   cases x with
   |non=>cases rx;exact SeqAt.EqAt.bool_none a
   |bl b=>cases rx;exact SeqAt.EqAt.bool_bool a b
   |int b=>obtain⟨t,rfl⟩:=rx;exact SeqAt.EqAt.bool_int a b t
   |str b=>obtain⟨t,rfl⟩:=rx;exact SeqAt.EqAt.bool_str a b t
   |_=>exact absurd (show false=true from fx) A0B
 |int a=>
   obtain⟨t',rfl⟩:=ry
   cases x with
   |non=>cases rx;exact SeqAt.EqAt.int_none a t'
   |bl b=>cases rx;exact SeqAt.EqAt.int_bool a t' b
   |int b=>obtain⟨t,rfl⟩:=rx;exact SeqAt.EqAt.int_int a t' b t
   |str b=>obtain⟨t,rfl⟩:=rx;exact SeqAt.EqAt.int_str a t' b t
   |_=>exact absurd (show false=true from fx) A0B
 |str a=>
   obtain⟨t',rfl⟩:=ry
   cases x with
   |non=>cases rx;exact SeqAt.EqAt.str_none a t'
   |bl b=>cases rx;exact SeqAt.EqAt.str_bool a t' b
   |int b=>obtain⟨t,rfl⟩:=rx;exact SeqAt.EqAt.str_int a t' b t
   |str b=>obtain⟨t,rfl⟩:=rx;exact SeqAt.EqAt.str_str a t' b t
   |_=>exact absurd (show false=true from fx) A0B
 |_=>exact absurd (show false=true from fy) A0B
def eqU (x:V)(u:Value):Bool:=match u with
 |.none=>eqV .non x
 |.bool b=>eqV (.bl b) x
 |.int i _=>eqV (.int i) x
 |.str z _=>eqV (.str z) x
 |_=>false
theorem Xs {x y:V}{u:Value}(r:RelV y u)(f:M7 y=true):eqU x u=eqV y x:=by
 cases y with
 |non=>cases r;rfl
 |bl b=>cases r;rfl
 |int i=>obtain⟨t,rfl⟩:=r;rfl
 |str z=>obtain⟨t,rfl⟩:=r;rfl
 |_=>exact absurd (show false=true from f) A0B
theorem Jc {x:V}:∀ {xs:List V} {us:List Value},Vals xs us->xs.all M7=true->us.any (eqU x)=xs.any λy=>eqV y x
 |_,_,.nil,_=>rfl
 |y :: xs,u :: us,.cons r t,f=>by rw[List.all_cons,A0Z] at f;rw[A2I,A2I,Xs r f.1,Jc t f.2]
theorem G2 {A:Around}{s:Shared}{x:V}{v:Value}(rx:RelV x v)(fx:M7 x=true):∀ {xs:List V} {us:List Value},Vals xs us->xs.all M7=true->∀ u∈us,SeqAt.EqAt A s u v (eqU x u)
 |_,_,.nil,_=>λu hu=>by cases hu
 |y :: xs,u :: us,.cons r t,f=>λu' hu=>by
   rw[List.all_cons,A0Z] at f;rcases A0D.mp hu with rfl|hu
   . rw[Xs r f.1];exact a96 r rx f.1 fx
   exact G2 rx fx t f.2 u' hu
def inV (x:V)(xs:List V):Bool:=xs.any λy=>eqV y x
def rIn (K:W.Frag)(neg:Bool):R2:=λx y H Q=>∃ p xs,y = .ref p/\(SqL K H p xs\/SqT K H p xs)/\M7 x=true/\xs.all M7=true/\Q (.bl (if neg then !inV x xs else inV x xs)) H
theorem op_in_seq:OpR X (compareOp .In) (rIn X.K false):=by
 intro pins s σ H x y v u Q I rx ry h;obtain⟨p,xs,rfl,hq,fx,fs,q⟩:=h
 cases ry;rcases hq with hq|hq
 . obtain⟨its,r,pl,hz⟩:=I.list hq;refine SeqAt.in_listAt (eqU x) pl.isList (λw hw=>G2 rx fx r fs w (by simpa using hw)) ⟨.bl _,H,I,rfl,?_⟩;rw[show its.toArray.any (eqU x)=its.any (eqU x) by simp,Jc r fs];exact q
 obtain⟨its,r,pl,hz⟩:=I.tuple hq;refine SeqAt.in_tupleAt (eqU x) pl (λw hw=>G2 rx fx r fs w (by simpa using hw)) ⟨.bl _,H,I,rfl,?_⟩;rw[show its.toArray.any (eqU x)=its.any (eqU x) by simp,Jc r fs];exact q
theorem op_notIn_seq:OpR X (compareOp .NotIn) (rIn X.K true):=by
 intro pins s σ H x y v u Q I rx ry h;obtain⟨p,xs,rfl,hq,fx,fs,q⟩:=h
 cases ry;rcases hq with hq|hq
 . obtain⟨its,r,pl,hz⟩:=I.list hq;refine SeqAt.notIn_listAt (eqU x) pl.isList (λw hw=>G2 rx fx r fs w (by simpa using hw)) ⟨.bl _,H,I,rfl,?_⟩;rw[show its.toArray.any (eqU x)=its.any (eqU x) by simp,Jc r fs];exact q
 obtain⟨its,r,pl,hz⟩:=I.tuple hq;refine SeqAt.notIn_tupleAt (eqU x) pl (λw hw=>G2 rx fx r fs w (by simpa using hw)) ⟨.bl _,H,I,rfl,?_⟩;rw[show its.toArray.any (eqU x)=its.any (eqU x) by simp,Jc r fs];exact q
theorem op_notIn_str:OpR X (compareOp .NotIn) (λx y H Q=>∃ i j,x = .str i/\y = .str j/\Q (.bl (!(!(Builtin.Str.occurrences j i 0 j.length 1).isEmpty))) H):=by intro pins s σ H x y v u Q I rx ry h;obtain⟨i,j,rfl,rfl,q⟩:=h;obtain⟨t,rfl⟩:=rx;obtain⟨t',rfl⟩:=ry;exact notIn_str ⟨.bl _,H,I,rfl,q⟩
theorem CallR.or {f:Value}{r r':List V->Hp->VK->Prop}(h:CallR X f r)(h':CallR X f r'):CallR X f (λxs H Q=>r xs H Q\/r' xs H Q):=by
 intro pins s σ H xs us Q I rs q;rcases q with q|q
 . exact h pins s σ H xs us Q I rs q
 exact h' pins s σ H xs us Q I rs q
theorem M4:CallR X (.type "list") (λxs H Q=>∃ p ys,xs=[.ref p]/\(SqL X.K H p ys\/SqT X.K H p ys)/\∀ l,H l=none->Q (.ref l) (upd H l (.lst ys))):=by
 intro pins s σ H xs us Q I r h;obtain⟨p,ys,rfl,hq,q⟩:=h;obtain⟨u,rfl,rx⟩:=Oh r
 cases rx
 have fin:∀(its:List Value),Vals ys its->ys.length<=sizeLine->∀(h':Heap) (c':Nat),(∀ b o',s.heap.get? b=some o'->h'.get? b=some o') ->
   h'.get? s.heap.objs.size=some {cls:=.type "list",dict:=none,data:=.seq its.toArray c',slots:=#[]}->EP X pins σ Q (.ref s.heap.objs.size) {s with heap:=h'}:=λits r' hz h' c' kp e=>
  ⟨.ref s.heap.objs.size,_,I.laid (t':=s.toks) kp (A0A _) (show ObjOk X.prog X.w _ h' _ (.lst ys) from⟨hz,its,c',r',e⟩),rfl,q _ (I.hok.fresh (A0A _))⟩
 rcases hq with hq|hq
 . obtain⟨its,r',pl,hz⟩:=I.list hq;have hlen:=r'.length;obtain⟨o,ho,hc,n,hd⟩:=pl.isList;exact call_list_seq p (.inl rfl) ho hc hd (λh' c' kp e=>fin its r' hz h' c' kp e) (by simp only[List.size_toArray]<;>omega)
 obtain⟨its,r',pl,hz⟩:=I.tuple hq;have hlen:=r'.length;obtain⟨o,ho,hc,n,hd⟩:=pl;exact call_list_seq p (.inr rfl) ho hc hd (λh' c' kp e=>fin its r' hz h' c' kp e) (by simp only[List.size_toArray]<;>omega)
def tyV (K:W.Frag)(T:String)(x:V)(H:Hp):Prop:=match x with
 |.str _=>T = "str"
 |.int _=>T = "int"
 |.ref p=>(T = "list" /\ ∃ xs,SqL K H p xs)\/(T = "tuple" /\ ∃ o,K.lookup p=some o/\o.cls = .type "tuple" /\ o.dict=none) \/
   (T = "dict" /\ ((∃ kvs,H p=some (.dK kvs))\/∃ kvs,H p=some (.dT kvs)))\/(T = "set" /\ ∃ S n,H p=some (.set S n))
 |_=>False
theorem ag6 {pins:List (Addr×Obj)}{σ:St}{H:Hp}{s:Shared}{T:String}{x:V}{v:Value}(I:Inv X pins σ H s)(r:RelV x v)(ty:tyV X.K T x H) :
  s.TypeIs v T/\∀ a,v = .ref a->∃ ob,s.heap.get? a=some ob/\ob.dict=none:=by
 cases x with
 |str z=>
   obtain⟨t,rfl⟩:=r
   cases (show T = "str" from ty);exact⟨typeIs_str s z t,λ_ e=>nomatch e⟩
 |int i=>
   obtain⟨t,rfl⟩:=r
   cases (show T = "int" from ty);exact⟨A3B s i t,λ_ e=>nomatch e⟩
 |ref p=>
   cases r;rcases ty with ⟨rfl,xs,hq⟩|⟨rfl,o,hk,hc,hd⟩|⟨rfl,hk⟩|⟨rfl,S,n,hk⟩
   . obtain⟨its,_,pl,_⟩:=I.list hq;refine⟨pl.isList.typeIs,λa e=>?_⟩
     cases e;obtain⟨o,n,e,c,hd,_⟩:=pl;exact⟨o,e,hd⟩
   . refine⟨⟨o,I.kIn p o hk,hc⟩,λa e=>?_⟩
     cases e;exact⟨o,I.kIn _ o hk,hd⟩
   . have z:∃ o,s.heap.get? p=some o/\o.ExactDict:=by
      rcases hk with ⟨kvs,hk⟩|⟨kvs,hk⟩
      . obtain⟨_,_,_,_,o,_,_,e,ex,_⟩:=I.hok p _ hk;exact⟨o,e,ex⟩
      obtain⟨_,_,_,_,o,_,_,e,ex,_⟩:=I.hok p _ hk;exact⟨o,e,ex⟩
     obtain⟨o,e,ex⟩:=z;refine⟨⟨o,e,ex.1⟩,λa e2=>?_⟩
     cases e2;exact⟨o,e,ex.2.1⟩
   obtain⟨o,_,_,_,e,ex,_⟩:=I.hok p _ hk;refine⟨⟨o,e,ex.1⟩,λa e2=>?_⟩
   cases e2;exact⟨o,e,ex.2.1⟩
 |_=>exact False.elim ty
def tBM0 (K:W.Frag)(T:String)(r:V->List V->Hp->VK->Prop)(to:TE):TE:=fun σ H Q=>to σ H λx H1=>tyV K T x H1/\r x [] H1 Q
def tBM (K:W.Frag)(T:String)(r:V->List V->Hp->VK->Prop)(to:TE)(t:TA):TE:=fun σ H Q=>to σ H λx H1=>tyV K T x H1/\t σ H1 λxs H2=>r x xs H2 Q
variable {o e:Expr}{es:List Expr}{to:TE}{t:TA}{name:Str}{apos cpos:Pos}{T id:String}{r:V->List V->Hp->VK->Prop}
theorem an7 (pa:PlainAttrs T)(slot:Slot T name id)(hty:typeOf (.builtin id)=pure (.type "method_descriptor"))(hm:MtR X id r)(ho:PE X o to)(ha:PA X (e :: es) t)
  (hbase:attributeBase o name X.env (eval o X.env)=eval o X.env:=by ac_nf)
  (hfew:((backTo cpos (starEach (e :: es) X.env)).all (λx=>!x.1)&&(backToKw cpos (keywordEach [] X.env)).all (λx=>x.1.isSome)
   && decide ((e :: es).length+([]:List Keyword).length+(if([]:List Keyword).isEmpty then 0 else 1)<30))=true:=by ac_nf)
  (hline:(apos.endLine==cpos.line)=true:=by ac_nf) (hs:starEach (e :: es) X.env=(false,eval e X.env) :: starEach es X.env:=by ac_nf) (hplain:(backTo cpos (starEach es X.env)).any (·.1)=false:=by ac_nf) :
  PE X (.Call (.Attribute o name apos) (e :: es) [] cpos) (tBM X.K T r to t):=by
 intro pins s σ H Q I h;refine wpAny_Call_method_late hbase hfew hline rfl (thn (ho pins s σ H _ I h) λv s1 ⟨x,H1,I1,r1,ty,q1⟩=>?_);obtain⟨h1,h2⟩:=ag6 I1 r1 ty;refine⟨T,id,pa,slot,hty,h1,h2,?_⟩;have hA:=ha cpos pins s1 σ H1 _ I1 q1;rw[hs] at hA ⊢;refine Calls.callWith_builtin (by show(false||(backTo cpos (starEach es X.env)).any (·.1))=false;rw[hplain]<;>rfl) (Calls.evalArgs_plain ?_)
 exact thn hA λus s2 ⟨vs,H2,I2,r2,q2⟩=>hm pins s2 σ H2 x vs v us Q I2 r1 r2 q2
/- xs.append(e),list.index on a module's tuple .. are MtR facts of 06m -/
end
def MtM (X:Cx)(id:String)(r:V->List V->Hp->VK->Prop):Prop:=
 ∀(pins:List (Addr×Obj)) (s:Shared) (σ:St) (H:Hp) (x:V) (xs:List V) (v:Value) (us:List Value) (Q:VK),Inv X pins σ H s->RelV x v->Vals xs us->r x xs H Q ->
  wpAny (model X.prog X.w) X.A (call (.builtin id) (v :: us)) (EP X pins σ Q) X.xe s
theorem Vals.one {x:V}{us:List Value}(h:Vals [x] us):∃ u,us=[u]/\RelV x u:=by
 cases h with
 |cons r q=>cases q;exact⟨_,rfl,r⟩
theorem Vals.two {x y:V}{us:List Value}(h:Vals [x,y] us):∃ u v,us=[u,v]/\RelV x u/\RelV y v:=by
 cases h with
 |cons r q=>obtain⟨u,rfl,q'⟩:=Vals.one q;exact⟨_,_,rfl,r,q'⟩
theorem Vals.eraseIdx:∀ {xs:List V} {us:List Value} (i:Nat),Vals xs us->Vals (xs.eraseIdx i) (us.eraseIdx i)
 |_,_,_,.nil=>.nil
 |_,_,0,.cons _ t=>t
 |_,_,i+1,.cons r t=>.cons r (Vals.eraseIdx i t)
theorem Vals.reverse {xs:List V}{us:List Value}(h:Vals xs us):Vals xs.reverse us.reverse:=by
 induction h with
 |nil=>exact .nil
 |cons r t ih=>rw[A3U,A3U];exact Vals.append ih (.cons r .nil)
theorem Vals.rep {xs:List V}{us:List Value}(h:Vals xs us):∀ k:Nat,Vals (List.replicate k xs).flatten (List.replicate k us).flatten
 |0=>.nil
 |k+1=>by rw[A1M,A1M,A2A,A2A];exact Vals.append h (Vals.rep h k)
theorem N9 {α:Type}:∀(l:List α) (i:Nat),(l.eraseIdx i).length<=l.length
 | [],_=>A0A _
 |_ :: _,0=>A3C _
 |_ :: r,i+1=>Nat.succ_le_succ (N9 r i)
theorem K1 (its:List Value):∀(k:Nat) (acc:List Value),
  List.foldl (λx1 x2=>x1++x2) acc.toArray (List.replicate k its.toArray)=(acc++(List.replicate k its).flatten).toArray
 |0,acc=>by simp
 |k+1,acc=>by
   have e:acc.toArray++its.toArray=(acc++its).toArray:=by simp
   have e2:(acc++its)++(List.replicate k its).flatten=acc++(List.replicate (k+1) its).flatten:=by rw[A1M,A2A,A1I]
   rw[<- e2,<- K1 its k (acc++its),<- e,A1M,A4D]
section
variable {X:Cx}{pins:List (Addr×Obj)}{σ:St}{H:Hp}{s:Shared}{l b:Addr}{xs ys zs:List V}
theorem Inv.lset {its its':List Value}{n:Nat}{f:Array Value->Array Value}{t':Nat}(I:Inv X pins σ H s)(hH:H l=some (.lst xs))
  (e:s.heap.get? l=some {cls:=.type "list",data:=.seq its.toArray n}) (hf:f its.toArray=its'.toArray) (hv:Vals ys its') (hz:ys.length<=sizeLine) :
  Inv X pins σ (upd H l (.lst ys)) {s with heap:=s.heap.update l (Obj.mapSeq f),toks:=t'}:=by
 have q:=PySem.IsL.update e f;rw[hf] at q;refine I.write (x:=l) (e:=l) (by rw[hH];exact trivial) (.inl rfl) (λb' u hb hu=>(A1T s.heap (Obj.mapSeq f) (Ne.symm hb)).trans hu) ⟨_,q⟩ ?_;exact⟨hz,its',_,hv,q⟩
theorem Inv.lnew {its:List Value}{t':Nat}(I:Inv X pins σ H s)(hv:Vals ys its)(hz:ys.length<=sizeLine) :
  Inv X pins σ (upd H s.heap.objs.size (.lst ys)) {s with heap:=s.heap.push {cls:=.type "list",data:=.seq its.toArray},toks:=t'}:=
 I.laid (λ_ _ q=>A01 _ q) (A0A _) ⟨hz,its,0,hv,A0E _ rfl⟩
theorem Inv.fresh (I:Inv X pins σ H s):H s.heap.objs.size=none:=I.hok.fresh (A0A _)
theorem Inv.lstM (I:Inv X pins σ H s)(hH:H l=some (.lst xs)):xs.length<=sizeLine/\∃(its:List Value) (n:Nat),Vals xs its/\xs.length=its.length/\s.heap.get? l=some {cls:=.type "list",data:=.seq its.toArray n}:=by obtain⟨z,its,n,r,e⟩:=I.hok l _ hH;exact⟨z,its,n,r,r.length,e⟩
theorem Qc {n:Nat}(h:n<=sizeLine):Builtin.List.listTooLong n=false:=by unfold Builtin.List.listTooLong;exact A0R (by omega)
end
section
variable {X:Cx}
def Rv:V->List V->Hp->VK->Prop:=λx vs H Q=>∃ l xs y,x = .ref l/\vs=[y]/\H l=some (.lst xs)/\xs.length<sizeLine/\Q .non (upd H l (.lst (xs++[y])))
theorem G8:MtM X "list.append" Rv:=by
 intro pins s σ H x vs v us Q I rx rv h;obtain⟨l,xs,y,rfl,rfl,hH,hz,q⟩:=h
 cases rx;obtain⟨u,rfl,ru⟩:=rv.one;obtain⟨z,its,n,r,hl,e⟩:=I.lstM hH;refine A2L F.slot_list_append ⟨_,e,rfl⟩ F.entry_list_append (F.args_list_append_2 _ _) (PySem.list_append l its.toArray n u (by rw[A0N];omega)) ⟨e,?_⟩;refine⟨.non,_,I.lset (its':=its++[u]) hH e ∅ (r.append (.cons ru .nil)) ?_,rfl,q⟩;rw[A0H,A1F];omega
def Z1:V->List V->Hp->VK->Prop:=λx vs H Q=>∃ l b xs zs,x = .ref l/\vs=[.ref b]/\H l=some (.lst xs)/\H b=some (.lst zs)/\xs.length+zs.length<=sizeLine/\Q .non (upd H l (.lst (xs++zs)))
theorem Si:MtM X "list.extend" Z1:=by
 intro pins s σ H x vs v us Q I rx rv h;obtain⟨l,b,xs,zs,rfl,rfl,hH,hB,hz,q⟩:=h
 cases rx;obtain⟨u,rfl,ru⟩:=rv.one
 cases ru;obtain⟨z,its,n,r,hl,e⟩:=I.lstM hH;obtain⟨z2,its2,n2,r2,hl2,e2⟩:=I.lstM hB;have hsz:its.toArray.size+its2.toArray.size<=sizeLine:=by rw[A0N,A0N];omega
 have hlong:¬ (!its.toArray.isEmpty&&Builtin.List.listTooLong (its.toArray.size+its2.toArray.size))=true:=by rw[Qc hsz,Bool.and_false];exact A0B
 refine A2L F.slot_list_extend ⟨_,e,rfl⟩ F.entry_list_extend (F.args_list_extend_2 _ _)
  (AutoSeq1.list_extend_list_list_0 l its.toArray n b its2.toArray n2 hlong (by rw[A0N];omega) (by omega)) ⟨e,e2,?_⟩
 refine⟨.non,_,I.lset (its':=its++its2) hH e ∅ (r.append r2) ?_,rfl,q⟩;rw[A0H];omega
def Ya:V->List V->Hp->VK->Prop:=λx vs H Q=>∃ l xs i k y,x = .ref l/\vs=[.int i]/\H l=some (.lst xs) /\ -(2 ^ 63)<=i/\i<2 ^ 63/\seqIndex? i xs.length=some k/\xs[k]? = some y/\Q y (upd H l (.lst (xs.eraseIdx k)))
theorem Xd:MtM X "list.pop" Ya:=by
 intro pins s σ H x vs v us Q I rx rv h;obtain⟨l,xs,i,k,y,rfl,rfl,hH,h1,h2,hk,hy,q⟩:=h
 cases rx;obtain⟨u,rfl,ru⟩:=rv.one;obtain⟨t,rfl⟩:=ru;obtain⟨z,its,n,r,hl,e⟩:=I.lstM hH;obtain⟨w,hw,rw'⟩:=r.get hy
 refine A2L F.slot_list_pop ⟨_,e,rfl⟩ F.entry_list_pop (F.args_list_pop_2 _ _)
  (MeetsSeq.list_pop_at l its.toArray n i t k w (fitsIndex_both h1 h2) (by rw[A0N,<- hl];exact hk) (by rw[<- A26];exact hw) (by rw[A0N];omega)) ⟨e,?_⟩
 refine⟨y,_,I.lset (its':=its.eraseIdx k) hH e ?_ (r.eraseIdx k) ?_,rw',q⟩
 . show its.toArray.eraseIdxIfInBounds k=(its.eraseIdx k).toArray;rw[List.eraseIdxIfInBounds_toArray]
 have:=N9 xs k;omega
def aq6:R2:=λx y H Q=>∃ l b xs zs,x = .ref l/\y = .ref b/\H l=some (.lst xs)/\H b=some (.lst zs)/\xs.length+zs.length<=sizeLine/\∀ p,H p=none->Q (.ref p) (upd H p (.lst (xs++zs)))
theorem op_cat:OpR X (binaryOp .Add) aq6:=by
 intro pins s σ H x y v u Q I rx ry h;obtain⟨l,b,xs,zs,rfl,rfl,hH,hB,hz,q⟩:=h
 cases rx
 cases ry;obtain⟨z,its,n,r,hl,e⟩:=I.lstM hH;obtain⟨z2,its2,n2,r2,hl2,e2⟩:=I.lstM hB;refine PySem.P.add_list e e2 ?_ (by rw[A0N,A0N];omega);have ea:its.toArray++its2.toArray=(its++its2).toArray:=by simp
 rw[ea];exact⟨.ref _,_,I.lnew (t':=s.toks) (r.append r2) (by rw[A0H];omega),rfl,q _ I.fresh⟩
def aq4:R2:=λx y H Q=>∃ l k xs,x = .ref l/\y = .int k/\H l=some (.lst xs) /\ -(2 ^ 63)<=k/\k<2 ^ 63/\xs.length*k.toNat<=sizeLine /\
 ∀ p,H p=none->Q (.ref p) (upd H p (.lst (List.replicate k.toNat xs).flatten))
theorem Oi {α:Type}(xs:List α)(k:Nat):(List.replicate k xs).flatten.length=k*xs.length:=by
 induction k with
 |zero=>simp
 |succ k ih=>rw[A1M,A2A,A0H,ih,Nat.succ_mul,Nat.add_comm]
theorem ah6:OpR X (binaryOp .Mult) aq4:=by
 intro pins s σ H x y v u Q I rx ry h;obtain⟨l,k,xs,rfl,rfl,hH,h1,h2,hz,q⟩:=h
 cases rx;obtain⟨t,rfl⟩:=ry;obtain⟨z,its,n,r,hl,e⟩:=I.lstM hH;have hlen:its.toArray.size*k.toNat<=sizeLine:=by rw[A0N,<- hl];exact hz
 have hcap:¬ its.toArray.size*k.toNat>(2 ^ 63-1) / 8:=by
  have:(sizeLine:Nat)<=(2 ^ 63-1) / 8:=by decide
  omega
 have hfit:¬ (!Builtin.List.listFitsIndex k)=true:=by rw[fitsIndex_both h1 h2];exact A0B
 have hlong:¬ Builtin.List.listTooLong (its.toArray.size*k.toNat)=true:=by rw[Qc hlen];exact A0B
 have hnew:List.foldl (λx1 x2=>x1++x2) #[] (List.replicate (if its.toArray.isEmpty=true then 0 else k.toNat) its.toArray)=(List.replicate k.toNat its).flatten.toArray:=by
  have f0:∀ m:Nat,List.foldl (λx1 x2=>x1++x2) #[] (List.replicate m its.toArray)=(List.replicate m its).flatten.toArray:=λm=>by have:=K1 its m [];rw[A4E] at this;exact this
  rw[f0]
  cases its with
  |nil=>simp
  |cons a r'=>rw[A0L ∅]
 refine A2X (T:="list") (U:="int") nofun ⟨_,e,rfl⟩ (λs'=>A3B s' k t) noFill_list_mul F.fills_int_mul F.slot_int_rmul repeat_list F.slot_int_index.lookup
  (A2L F.slot_int_rmul (A3B s k t) F.entry_int_rmul (F.args_int_rmul_2 _ _) (int___rmul___int_list k t l its.toArray n)
   ⟨e,rfl,⟨_,e,rfl⟩,A2L F.slot_list_mul ⟨_,e,rfl⟩ F.entry_list_mul (F.args_list_mul_2 _ _) (AutoListH.list___mul___list_int_3 l its.toArray n k t hfit hcap hlong) ⟨e,?_⟩⟩)
 rw[hnew];exact⟨.ref _,_,I.lnew (t':=s.toks) (r.rep k.toNat) (by rw[Oi,A4F];exact hz),rfl,q _ I.fresh⟩
end
section
variable {prog:Program}{w:World}{A:Around}{E:Value->Shared->Prop}{s:Shared}
set_option maxRecDepth 100000 in
end
section
variable {X:Cx}
end
section
variable {κ:Type}[DecidableEq κ]
def Cf (kvs:List (κ×V))(k:κ):Option V:=(kvs.find? λkv=>decide (kv.1=k)).map (·.2)
def D9 (kvs:List (κ×V))(k:κ)(v:V):List (κ×V):=
 if(kvs.any λkv=>decide (kv.1=k))=true then kvs.map (λkv=>if kv.1=k then(kv.1,v) else kv) else kvs++[(k,v)]
def af2 (kvs:List (κ×V))(k:κ):List (κ×V):=kvs.filter λkv=>decide (kv.1≠k)
theorem Wk {k:κ}:Cf ([]:List (κ×V)) k=none:=rfl
theorem B9 {p:κ×V} {r:List (κ×V)} {k:κ} (e:p.1=k):Cf (p :: r) k=some p.2:=by simp[Cf,List.find?_cons,e]
theorem Bd {p:κ×V}{r:List (κ×V)}{k:κ}(e:¬ p.1=k):Cf (p :: r) k=Cf r k:=by simp[Cf,List.find?_cons,e]
theorem Dq (k:κ):∀ kvs:List (κ×V),(kvs.any λkv=>decide (kv.1=k))=(Cf kvs k).isSome
 | []=>rfl
 |p :: r=>by
   rw[A2I]
   by_cases e:p.1=k
   . simp only[B9 e,decide_eq_true e,Bool.true_or,Option.isSome_some]
   rw[Bd e,A0R e,A44];exact Dq k r
theorem Po (k j:κ)(y:V):∀ kvs:List (κ×V),Cf (kvs.map λkv=>if kv.1=k then(kv.1,y) else kv) j=(Cf kvs j).map λx=>if j=k then y else x
 | []=>rfl
 |p :: r=>by
   have ih:=Po k j y r;rw[A0I]
   by_cases h:p.1=k
   . rw[A0Q h]
     by_cases e:p.1=j
     . rw[B9 (p:=(p.1,y)) e,B9 e,A4G,A0Q (e.symm.trans h)]
     rw[Bd (p:=(p.1,y)) e,Bd e,ih]
   rw[A0L h]
   by_cases e:p.1=j
   . rw[B9 (p:=p) e,B9 e,A4G,A0L (λz=>h (e.trans z))]
   rw[Bd (p:=p) e,Bd e,ih]
theorem Nw (k j:κ)(y:V):∀ kvs:List (κ×V),Cf kvs k=none->Cf (kvs++[(k,y)]) j=if j=k then some y else Cf kvs j
 | [],_=>by
   by_cases e:k=j
   . rw[A0Q e.symm];exact B9 (p:=(k,y)) e
   rw[A0L (λz=>e z.symm)];exact Bd (p:=(k,y)) e
 |p :: r,hn=>by
   rw[List.cons_append];have hk:¬ p.1=k:=λz=>by rw[B9 z] at hn;cases hn
   rw[Bd hk] at hn;have ih:=Nw k j y r hn
   by_cases e:p.1=j
   . rw[B9 e,B9 e,A0L (λz=>hk (e.trans z))]
   rw[Bd e,Bd e,ih]
theorem W2 (kvs:List (κ×V))(k j:κ)(y:V):Cf (D9 kvs k y) j=if j=k then some y else Cf kvs j:=by
 unfold D9
 by_cases a:(kvs.any λkv=>decide (kv.1=k))=true
 . rw[A0Q a,Po];rw[Dq] at a
   by_cases e:j=k
   . obtain⟨x,hx⟩:=Option.isSome_iff_exists.mp a;rw[A0Q e,e,hx,A4G,A0Q rfl]
   rw[A0L e]
   cases Cf kvs j with
   |none=>rfl
   |some x=>rw[A4G,A0L e]
 rw[A0L a];refine Nw k j y kvs ?_;rw[Dq] at a
 cases q:Cf kvs k with
 |none=>rfl
 |some x=>rw[q] at a;exact(a rfl).elim
theorem Fa (kvs:List (κ×V))(k:κ)(v:V):(D9 kvs k v).length<=kvs.length+1:=by
 unfold D9
 split
 . rw[A05];omega
 rw[A0H,A0F,List.length_nil];omega
theorem Pp {kvs:List (κ×V)}{k:κ}(v:V)(h:Cf kvs k=none):D9 kvs k v=kvs++[(k,v)]:=by unfold D9;rw [Dq,h];exact A0L nofun
theorem RelO.isSome_eq {o:Option V}{u:Option Value}(r:RelO o u):o.isSome=u.isSome:=by
 cases o with
 |none=>cases u with
   |none=>rfl
   |some _=>exact(show False from r).elim
 |some _=>cases u with
   |none=>exact(show False from r).elim
   |some _=>rfl
theorem RelO.getD {o:Option V}{u:Option Value}{d:V}{d':Value}(r:RelO o u)(rd:RelV d d'):RelV (o.getD d) (u.getD d'):=by
 cases o with
 |none=>cases u with
   |none=>exact rd
   |some _=>exact(show False from r).elim
 |some _=>cases u with
   |none=>exact(show False from r).elim
   |some _=>exact r
theorem KV.val {kvs:List (κ×V)} {vs:List (κ×Value)} (r:KV kvs vs) (k:κ):RelO (Cf kvs k) (valueAt vs k):=by
 unfold KV at r
 induction r with
 |nil=>exact A1U
 |@cons p q ps qs h t ih=>
   obtain⟨h1,h2⟩:=h
   by_cases e:p.1=k
   . have e':q.1=k:=h1.symm.trans e;have b:valueAt (q :: qs) k=some q.2:=by simp[valueAt,List.find?_cons,e']
     rw[B9 e,b];exact h2
   have e':¬ q.1=k:=λz=>e (h1.trans z);have b:valueAt (q :: qs) k=valueAt qs k:=by simp[valueAt,List.find?_cons,e']
   rw[Bd e,b];exact ih
theorem KV.any {kvs:List (κ×V)}{vs:List (κ×Value)}(r:KV kvs vs)(k:κ):(kvs.any λkv=>decide (kv.1=k))=vs.any λkv=>decide (kv.1=k):=by
 unfold KV at r
 induction r with
 |nil=>rfl
 |cons h t ih=>rw[A2I,A2I,ih,h.1]
theorem KV.repl {kvs:List (κ×V)}{vs:List (κ×Value)}(r:KV kvs vs)(k:κ){y:V}{u:Value}(ry:RelV y u) :
  KV (kvs.map λkv=>if kv.1=k then(kv.1,y) else kv) (vs.map λkv=>if kv.1=k then(kv.1,u) else kv):=by
 unfold KV at r ⊢
 induction r with
 |nil=>exact .nil
 |@cons p q ps qs h t ih=>
   rw[A0I,A0I];refine .cons ?_ ih;obtain⟨h1,h2⟩:=h
   by_cases e:p.1=k
   . rw[A0Q e,A0Q (h1.symm.trans e)];exact⟨h1,ry⟩
   rw[A0L e,A0L (λz=>e (h1.trans z))];exact⟨h1,h2⟩
theorem KV.put {kvs:List (κ×V)}{vs:List (κ×Value)}(r:KV kvs vs)(k:κ){y:V}{u:Value}(ry:RelV y u):KV (D9 kvs k y) (stored vs k u):=by
 unfold D9 stored;rw[r.any k]
 by_cases e:(vs.any λkv=>decide (kv.1=k))=true
 . rw[A0Q e,A0Q e];exact r.repl k ry
 rw[A0L e,A0L e];exact Paired.snoc r ⟨rfl,ry⟩
theorem KV.drop {kvs:List (κ×V)}{vs:List (κ×Value)}(r:KV kvs vs)(k:κ):KV (af2 kvs k) (without vs k):=by
 unfold KV at r ⊢;unfold af2 without
 induction r with
 |nil=>exact .nil
 |@cons p q ps qs h t ih=>
   obtain⟨h1,h2⟩:=h;rw[A15,A15]
   by_cases e:p.1=k
   . have a:¬ decide (p.1≠k)=true:=by simp[e]
     have b:¬ decide (q.1≠k)=true:=by simp[h1.symm.trans e]
     rw[A0L a,A0L b];exact ih
   have e':¬ q.1=k:=λz=>e (h1.trans z);have a:decide (p.1≠k)=true:=by simp[e]
   have b:decide (q.1≠k)=true:=by simp[e']
   rw[A0Q a,A0Q b];exact .cons ⟨h1,h2⟩ ih
theorem KV.length {kvs:List (κ×V)}{vs:List (κ×Value)}(r:KV kvs vs):kvs.length=vs.length:=A32 r
end
theorem Eu {P:Program}{w:World}{k:Key}{u:Value}(r:RelV (kV k) u):(Ak P w).is k u=true:=by
 cases k with
 |inl i=>obtain⟨t,e⟩:=(show ∃ t,u=Value.int i t from r);subst e;exact Ol P w i t
 |inr x=>obtain⟨t,e⟩:=(show ∃ t,u=Value.str x t from r);subst e;exact On P w x t
theorem Md {P:Program}{w:World}:∀ {ks:List Key} {us:List Value},Vals (ks.map kV) us->ItemsAre (Ak P w) ks us
 | [],_,r=>by rw[List.map_nil] at r;cases r;exact .nil
 |k :: ks,_,r=>by
   rw[A0I] at r
   cases r with
   |cons h t=>exact .cons (Eu h) (Md t)
abbrev KT (H:Hp):List (List Key×V)->List (List Key×Addr×Value)->Prop:=Paired λp q=>p.1=q.1/\H q.2.1=some (.tup (p.1.map kV))/\RelV p.2 q.2.2
theorem KT.val {H:Hp}{kvs:List (List Key×V)}{xs:List (List Key×Addr×Value)}(r:KT H kvs xs)(k:List Key):RelO (Cf kvs k) ((atKey xs k).map (·.2)):=by
 induction r with
 |nil=>exact A1U
 |@cons p q ps qs h t ih=>
   obtain⟨h1,_,h2⟩:=h
   by_cases e:p.1=k
   . have e':q.1=k:=h1.symm.trans e;have b:atKey (q :: qs) k=some q.2:=by simp[atKey,List.find?_cons,e']
     rw[B9 e,b];exact h2
   have e':¬ q.1=k:=λz=>e (h1.trans z);have b:atKey (q :: qs) k=atKey qs k:=by simp[atKey,List.find?_cons,e']
   rw[Bd e,b];exact ih
theorem KT.repl {H:Hp} {kvs:List (List Key×V)} {xs:List (List Key×Addr×Value)} (r:KT H kvs xs) (k:List Key) {y:V} {u:Value} (ry:RelV y u) :
  KT H (kvs.map λkv=>if kv.1=k then(kv.1,y) else kv) (xs.map (putAt k u)):=by
 induction r with
 |nil=>exact .nil
 |@cons p q ps qs h t ih=>
   rw[A0I,A0I];refine .cons ?_ ih;obtain⟨h1,h2,h3⟩:=h;unfold putAt
   by_cases e:p.1=k
   . rw[A0Q e,A0Q (h1.symm.trans e)];exact⟨h1,h2,ry⟩
   rw[A0L e,A0L (λz=>e (h1.trans z))];exact⟨h1,h2,h3⟩
theorem KT.put {H:Hp}{kvs:List (List Key×V)}{xs:List (List Key×Addr×Value)}(r:KT H kvs xs)(k:List Key){b:Addr}{y:V}{u:Value}(hb:H b=some (.tup (k.map kV)))(ry:RelV y u) :
  KT H (D9 kvs k y) (storedH xs k b u):=by
 have e:(kvs.any λkv=>decide (kv.1=k))=(atKey xs k).isSome:=by rw[Dq,(r.val k).isSome_eq,Option.isSome_map]
 unfold D9 storedH;rw[e]
 by_cases q:(atKey xs k).isSome=true
 . rw[A0Q q,A0Q q];exact r.repl k ry
 rw[A0L q,A0L q];exact Paired.snoc r ⟨rfl,hb,ry⟩
theorem KT.keeps {H H':Hp}{kvs:List (List Key×V)}{xs:List (List Key×Addr×Value)}(r:KT H kvs xs)(ht:∀ b ys,H b=some (.tup ys)->H' b=some (.tup ys)):KT H' kvs xs:=
 Paired.mapP r λ_ _ z=>⟨z.1,ht _ _ z.2.1,z.2.2⟩
section
variable {P:Program}{w:World}{H:Hp}{h:Heap}{a:Addr}
theorem a87 {u:HO}(ok:HOk P w H h)(e:Rd H a u):ObjOk P w H h a u:=e.ok ok
theorem Qp {kvs:List (Key×V)}(ok:HOk P w H h)(e:Rd H a (.dK kvs)):kvs.length<=sizeLine/\(a==sysModules)=false/\∃ vs,KV kvs vs/\h.DictOf (Ak P w) a vs:=
 show ObjOk P w H h a (.dK kvs) from a87 ok e
theorem M0 {kvs:List (Key×V)}(ok:HOk P w H h)(e:H a=some (.dK kvs)):kvs.length<=sizeLine/\(a==sysModules)=false/\∃ vs,KV kvs vs/\h.DictOf (Ak P w) a vs:=Qp ok (.inl e)
theorem Kn {ks:List Key}(ok:HOk P w H h)(e:H a=some (.tup (ks.map kV))):(tupleKind (Ak P w)).is h ks a:=by obtain⟨_,its,r,o,h1,h2,⟨n,h3⟩,_⟩:=(show ObjOk P w H h a (.tup (ks.map kV)) from ok a _ e);exact⟨o,its.toArray,n,h1,h2,h3,by simpa using Md r⟩
theorem Ry {kvs:List (List Key×V)}(ok:HOk P w H h)(e:Rd H a (.dT kvs)):kvs.length<=sizeLine/\(a==sysModules)=false /\
  ∃ xs,KT H kvs xs/\h.DictOfH (tupleKind (Ak P w)) a xs:=by
 obtain⟨z,y,xs,r,o,es,ep,h1,h2,h3,h4,h5⟩:=(show ObjOk P w H h a (.dT kvs) from a87 ok e);refine⟨z,y,xs,r,o,es,ep,h1,h2,h3,h4,λx hx=>?_,h5⟩
 have all:∀ {l:List (List Key×V)} {m:List (List Key×Addr×Value)},KT H l m->∀ x∈m,(tupleKind (Ak P w)).is h x.1 x.2.1:=by
  intro l m q
  induction q with
  |nil=>intro x hx;exact nomatch hx
  |@cons p q ps qs hq t ih=>
    intro x hx;rcases A0D.mp hx with e|hx
    . subst e;exact Kn ok (by rw[<- hq.1];exact hq.2.1)
    exact ih x hx
 exact all r x hx
theorem am1 {kvs:List (List Key×V)}(ok:HOk P w H h)(e:H a=some (.dT kvs)):kvs.length<=sizeLine/\(a==sysModules)=false /\
  ∃ xs,KT H kvs xs/\h.DictOfH (tupleKind (Ak P w)) a xs:=Ry ok (.inl e)
end
def DGet (H:Hp)(a:Addr)(y:V)(r:Option V):Prop:=
 (∃ kvs k,Rd H a (.dK kvs)/\y=kV k/\r=Cf kvs k)\/∃ kvs k b,Rd H a (.dT kvs)/\y = .ref b/\H b=some (.tup (k.map kV))/\r=Cf kvs k
def DPut (H:Hp)(a:Addr)(y v:V)(H':Hp):Prop:=
 (∃ kvs k,H a=some (.dK kvs)/\y=kV k/\kvs.length<sizeLine/\H'=upd H a (.dK (D9 kvs k v))) \/
 ∃ kvs k b,H a=some (.dT kvs)/\y = .ref b/\H b=some (.tup (k.map kV))/\kvs.length<sizeLine/\H'=upd H a (.dT (D9 kvs k v))
theorem DGet.k {H:Hp}{a:Addr}{kvs:List (Key×V)}{k:Key}(e:H a=some (.dK kvs)):DGet H a (kV k) (Cf kvs k):=.inl ⟨kvs,k,.inl e,rfl,rfl⟩
theorem DPut.k {H:Hp}{a:Addr}{kvs:List (Key×V)}{k:Key}{v:V}(e:H a=some (.dK kvs))(hl:kvs.length<sizeLine):DPut H a (kV k) v (upd H a (.dK (D9 kvs k v))):=.inl ⟨kvs,k,e,rfl,hl,rfl⟩
section
variable {X:Cx}{pins:List (Addr×Obj)}{σ:St}{H:Hp}{s:Shared}{a:Addr}{y v:V}{u r:Value}{o:Option V}{A:Around}{E:Value->Shared->Prop}
theorem Inv.big (I:Inv X pins σ H s):sysModules<s.heap.objs.size:=by have h:mainGlobals<s.heap.objs.size:=(I.mod.glob.keeps I.bk).lt;exact A4H nofun h
theorem Ti {Q:Value->Shared->Prop}(hu:A.units+1<cLine)(I:Inv X pins σ H s)(g:DGet H a y (some v))(ry:RelV y u)(h:∀ w' s',Inv X pins σ H s'->RelV v w'->Q w' s') :
  wpAny (model X.prog X.w) A (getItem (.ref a) u) Q E s:=by
 rcases g with ⟨kvs,k,e,ey,l⟩|⟨kvs,k,b,e,ey,eb,l⟩
 . subst ey;obtain⟨z,hd,vs,rel,dd⟩:=Qp I.hok e;obtain⟨w',hw,rw'⟩:=RelO.some_of (v:=v) (o:=valueAt vs k) (by rw[l];exact rel.val k);exact wpAny_getItem_of (Eu ry) dd.mapOf hw (h w' _ (I.tok _) rw')
 subst ey
 cases (show u=Value.ref b from ry);obtain⟨z,hd,xs,rel,dd⟩:=Ry I.hok e;obtain⟨w',hw,rw'⟩:=RelO.some_of (v:=v) (o:=(atKey xs k).map (·.2)) (by rw[l];exact rel.val k);obtain⟨p,hp,hp2⟩:=A48.mp hw;refine wpAny_getItem_heap (A3P hu) (Kn I.hok eb) dd hp ?_;rw[hp2];exact h w' _ (I.tok _) rw'
theorem d_in {Q:Value->Shared->Prop}(hu:A.units+1<cLine)(I:Inv X pins σ H s)(g:DGet H a y o)(ry:RelV y u)(h:∀ s',Inv X pins σ H s'->Q (.bool o.isSome) s') :
  wpAny (model X.prog X.w) A (compareOp .In u (.ref a)) Q E s:=by
 rcases g with ⟨kvs,k,e,ey,l⟩|⟨kvs,k,b,e,ey,eb,l⟩
 . subst ey;obtain⟨z,hd,vs,rel,dd⟩:=Qp I.hok e;refine wpAny_in_of (Eu ry) hd dd.mapOf ?_;rw[<- (rel.val k).isSome_eq,<- l];exact h _ (I.tok _)
 subst ey
 cases (show u=Value.ref b from ry);obtain⟨z,hd,xs,rel,dd⟩:=Ry I.hok e;refine wpAny_in_heap (A3P hu) (Kn I.hok eb) hd dd ?_;have q:=(rel.val k).isSome_eq;rw[Option.isSome_map] at q;rw[<- q,<- l];exact h _ (I.tok _)
theorem Zy {Q:Value->Shared->Prop}(hu:A.units+1<cLine)(I:Inv X pins σ H s)(g:DGet H a y o)(ry:RelV y u)(h:∀ s',Inv X pins σ H s'->Q (.bool (!o.isSome)) s') :
  wpAny (model X.prog X.w) A (compareOp .NotIn u (.ref a)) Q E s:=by
 rcases g with ⟨kvs,k,e,ey,l⟩|⟨kvs,k,b,e,ey,eb,l⟩
 . subst ey;obtain⟨z,hd,vs,rel,dd⟩:=Qp I.hok e;refine wpAny_notIn_of (Eu ry) hd dd.mapOf ?_;rw[<- (rel.val k).isSome_eq,<- l];exact h _ (I.tok _)
 subst ey
 cases (show u=Value.ref b from ry);obtain⟨z,hd,xs,rel,dd⟩:=Ry I.hok e;refine wpAny_notIn_heap (A3P hu) (Kn I.hok eb) hd dd ?_;have q:=(rel.val k).isSome_eq;rw[Option.isSome_map] at q;rw[<- q,<- l];exact h _ (I.tok _)
theorem Ly {h':Heap}{t':Nat}{ob:HO}(I:Inv X pins σ H s)(mu:Mut (H a))(hs:Heap.SameBut a s.heap h')(he:∃ q,h'.get? a=some q)(new:ObjOk X.prog X.w (upd H a ob) h' a ob) :
  Inv X pins σ (upd H a ob) {s with heap:=h',toks:=t'}:=
 I.write (x:=a) (e:=a) mu (.inl rfl) (λb q hb z=>(hs.2 b hb).trans z) he new
theorem Pj {P:Program}{w:World}{H':Hp}{h':Heap}{kvs:List (Key×V)}{vs:List (Key×Value)}(z:kvs.length<=sizeLine)(hd:(a==sysModules)=false)(rel:KV kvs vs)(dd:h'.DictOf (Ak P w) a vs) :
  ObjOk P w H' h' a (.dK kvs):=⟨z,hd,vs,rel,dd⟩
theorem Th {H':Hp}{Q:Unit->Shared->Prop}(hu:A.units+1<cLine)(I:Inv X pins σ H s)(g:DPut H a y v H')(ry:RelV y u)(rv:RelV v r)(h:∀ s',Inv X pins σ H' s'->Q () s') :
  wpAny (model X.prog X.w) A (setItem (.ref a) u r) Q E s:=by
 rcases g with ⟨kvs,k,e,ey,l,eH⟩|⟨kvs,k,b,e,ey,eb,l,eH⟩
 . subst ey eH;obtain⟨z,hd,vs,rel,dd⟩:=M0 I.hok e;have hz:vs.length<=sizeLine:=by rw[<- rel.length];exact z
   have hl:(D9 kvs k v).length<=sizeLine:=by have:=Fa kvs k v;omega
   refine wpAny_setItem_pairs (hsz:=hz) (Eu ry) dd λh' dd' hs=>h _ ?_;have he:∃ q,h'.get? a=some q:=let ⟨q,_,_,hq,_⟩:=dd';⟨q,hq⟩;exact Ly I (by rw[e];exact A1U) hs he (Pj hl hd (rel.put k rv) dd')
 subst ey eH
 cases (show u=Value.ref b from ry);obtain⟨z,hd,xs,rel,dd⟩:=am1 I.hok e;have hz:xs.length<=sizeLine:=by rw[<- A32 rel];exact z
 have hl:(D9 kvs k v).length<=sizeLine:=by have:=Fa kvs k v;omega
 refine wpAny_setItem_heap (hsz:=hz) (A3P hu) (Kn I.hok eb) dd λh' dd' hs=>h _ ?_;obtain⟨q,es,ep,hq,h2,h3,h4,_,h5⟩:=dd';refine Ly I (by rw[e];exact A1U) hs ⟨q,hq⟩ ⟨hl,hd,_,(rel.put k eb rv).keeps λc ys ec=>?_,q,es,ep,hq,h2,h3,h4,h5⟩;rw[Al (ne_of ec e (λz=>nomatch z))];exact ec
end
section
variable {X:Cx}{pins:List (Addr×Obj)}{σ:St}{H:Hp}{s:Shared}{a:Addr}{kvs:List (Key×V)}{k:Key}{u:Value}{A:Around}{E:Value->Shared->Prop}
theorem al0 {Q:Value->Shared->Prop}(I:Inv X pins σ H s)(e:Rd H a (.dK kvs))(h:∀ t s',Inv X pins σ H s'->Q (.int kvs.length t) s'):wpAny (model X.prog X.w) A (call (.builtin "len") [.ref a]) Q E s:=by obtain⟨z,hd,vs,rel,dd⟩:=Qp I.hok e;refine call_len_dict hd dd (by rw[<- rel.length];rw[A11] at z;omega) ?_;rw[<- rel.length];exact h _ _ (I.tok _)
end
theorem Op {X:Cx}{pins:List (Addr×Obj)}{σ:St}{H:Hp}{s:Shared}{a:Addr}{y:V}{o:Option V}(I:Inv X pins σ H s)(g:DGet H a y o):s.TypeIs (.ref a) "dict":=by
 rcases g with ⟨kvs,k,e,_,_⟩|⟨kvs,k,b,e,_,_,_⟩
 . obtain⟨_,_,vs,_,dd⟩:=Qp I.hok e;exact dd.typeIs
 obtain⟨_,_,xs,_,dd⟩:=Ry I.hok e;exact dd.typeIs
def Vj (td ty tv:TE):TS:=λD σ H=>tv σ H λv H1=>td σ H1 λx H2=>ty σ H2 λy H3=>∃ a H4,x = .ref a/\DPut H3 a y v H4/\D.nx σ H4
section
variable {X:Cx}{o i e value:Expr}{pos pos' tpos:Pos}{td ty tv:TE}
theorem Jf (hu:X.A.units+1<cLine)(ho:PE X o td)(hi:PE X i ty)(hv:PE X value tv)(hs:swapsWith value (some (.Subscript o i pos')) pos.line X.env=pure false) :
  PS X (.Assign [.Subscript o i pos'] value pos) (Vj td ty tv):=by
 intro pins s σ H D I h;refine wpAny_Assign_Subscript (thn (hv pins s σ H _ I h) λr s1 ⟨v,H1,I1,rv,q1⟩=>thn (ho pins s1 σ H1 _ I1 q1) λu s2 ⟨x,H2,I2,rx,q2⟩=>thn (hi pins s2 σ H2 _ I2 q2) λiv s3 ⟨y,H3,I3,ry,a,H4,ex,g,q3⟩=>?_) hs;subst ex;obtain rfl:u=Value.ref a:=rx;exact Th hu I3 g ry rv λs4 I4=>⟨σ,H4,I4,q3⟩
end
theorem Pa {P:Program}{w:World}{H:Hp}(h:Heap)(hb:sysModules<h.objs.size):ObjOk P w H (h.push {cls:=.type "dict",data:=.dict #[]}) h.objs.size (.dK []):=
 ⟨A2R _,A0S.mpr (Ne.symm (A0O hb)),[],.nil,Heap.DictOf.new h⟩
def Xi:TE:=λ_ H Q=>∀ p,H p=none->Q (.ref p) (upd H p (.dK []))
section
variable {X:Cx}{pos:Pos}
theorem Vy:PE X (.Dict [] [] pos) Xi:=λpins s σ H Q I h=>wpAny_Dict_empty ⟨.ref s.heap.objs.size,_,I.laid (a:=s.heap.objs.size) (o:=.dK []) (t':=s.toks) (λ_ _ q=>A01 _ q) (A0A _) (Pa s.heap I.big),rfl,h _ (I.hok.fresh (A0A _))⟩
end
def Je:List (TE×TE)->St->Hp->(List (V×V)->Hp->Prop)->Prop
 | [],_,H,Q=>Q [] H
 | (tk,tv) :: r,σ,H,Q=>tk σ H λx H1=>tv σ H1 λy H2=>Je r σ H2 λps H3=>Q ((x,y) :: ps) H3
abbrev VV:List (V×V)->List (Value×Value)->Prop:=Paired λp q=>RelV p.1 q.1/\RelV p.2 q.2
def PPs (X:Cx)(pos:Pos)(keys:List (Option Expr))(values:List Expr)(trs:List (TE×TE)):Prop:=
 ∀(pins:List (Addr×Obj)) (s:Shared) (σ:St) (H:Hp) (Q:List (V×V)->Hp->Prop),Inv X pins σ H s->Je trs σ H Q ->
  wpAny (model X.prog X.w) X.A (evalPairs (pairTrees keys values X.env pos)) (λvs s'=>∃ ps H',Inv X pins σ H' s'/\VV ps vs/\Q ps H') X.xe s
theorem a24 {X:Cx}{pos:Pos}:PPs X pos [] [] []:=λpins s σ H Q I h=>pairTrees_nil_walk ⟨[],H,I,.nil,h⟩
theorem Ih {X:Cx}{pos:Pos}{k v:Expr}{ks:List (Option Expr)}{vs:List Expr}{tk tv:TE}{trs:List (TE×TE)}(hk:PE X k tk)(hv:PE X v tv)(hr:PPs X pos ks vs trs) :
  PPs X pos (some k :: ks) (v :: vs) ((tk,tv) :: trs):=λpins s σ H Q I h=>
 pairTrees_cons_walk (thn (hk pins s σ H _ I h) λu s1 ⟨x,H1,I1,rx,q1⟩=>thn (hv pins s1 σ H1 _ I1 q1) λw2 s2 ⟨y,H2,I2,ry,q2⟩=>thn (hr pins s2 σ H2 _ I2 q2) λws s3 ⟨ps,H3,I3,rel,q3⟩=>⟨(x,y) :: ps,H3,I3,.cons ⟨rx,ry⟩ rel,q3⟩)
def Cz (kvs more:List (Key×V)):List (Key×V):=more.foldl (λacc kv=>D9 acc kv.1 kv.2) kvs
theorem KV.merge:∀ {more:List (Key×V)} {rs:List (Key×Value)} {kvs:List (Key×V)} {vs:List (Key×Value)},KV more rs->KV kvs vs->KV (Cz kvs more) (merged vs rs):=by
 intro more rs kvs vs r;unfold KV at r
 induction r generalizing kvs vs with
 |nil=>intro q;exact q
 |@cons p q ps qs h t ih=>
   intro r0
   have e:KV (D9 kvs p.1 p.2) (stored vs q.1 q.2):=by have:=r0.put p.1 h.2;rw[<- h.1];exact this
   exact ih e
theorem Cq:∀(more kvs:List (Key×V)),(Cz kvs more).length<=kvs.length+more.length
 | [],kvs=>by show kvs.length<=kvs.length+0;omega
 |p :: r,kvs=>by have h1:=Cq r (D9 kvs p.1 p.2);have h2:=Fa kvs p.1 p.2;show(Cz (D9 kvs p.1 p.2) r).length<=_;rw[A0F];omega
theorem Kw {P:Program}{w:World}:∀ {kvs:List (Key×V)} {ws:List (Value×Value)},VV (kvs.map λkv=>(kV kv.1,kv.2)) ws->∃ rs,Carries (Ak P w) ws rs/\KV kvs rs
 | [], _,r=>by rw[List.map_nil] at r;cases r;exact⟨[],A1U,.nil⟩
 |p :: kvs,_,r=>by
   rw[A0I] at r
   cases r with
   |@cons a b as bs h t=>obtain⟨rs,c,q⟩:=Kw (P:=P) (w:=w) t;obtain⟨b1,b2⟩:=b;exact⟨(p.1,b2) :: rs,⟨Eu h.1,rfl,c⟩,.cons ⟨rfl,h.2⟩ q⟩
def ac4 (trs:List (TE×TE)):TE:=fun σ H Q=>∀ p,H p=none->Je trs σ (upd H p (.dK [])) λps H2=>H2 p=some (.dK [])/\∃ kvs:List (Key×V),ps=kvs.map (λkv=>(kV kv.1,kv.2))/\kvs.length<=15/\Q (.ref p) (upd H2 p (.dK (Cz [] kvs)))
theorem a29 {X:Cx}{pos:Pos}{keys:List (Option Expr)}{values:List Expr}{trs:List (TE×TE)}(h:PPs X pos keys values trs)(hall:keys.all (·.isSome)=true)(hl:keys.length=values.length)(h0:keys≠[])
  (h15:keys.length<=15):PE X (.Dict keys values pos) (ac4 trs):=by
 intro pins s σ H Q I q;have hn:=I.hok.fresh (A0A s.heap.objs.size);have I1:=I.laid (a:=s.heap.objs.size) (o:=.dK []) (h':=s.heap.push {cls:=.type "dict",data:=.dict #[]}) (t':=s.toks) (λ_ _ q=>A01 _ q) (A0A _) (Pa s.heap I.big);refine wpAny_Dict_walk (knd:=Ak X.prog X.w) hall hl h0 h15 (thn (h pins _ σ _ _ I1 (q _ hn)) λws s2 ⟨ps,H2,I2,rel,e,kvs,ep,lk,q2⟩=>?_);subst ep;obtain⟨rs,c,rk⟩:=Kw (P:=X.prog) (w:=X.w) rel;obtain⟨z,hd,vs0,r0,dd⟩:=M0 I2.hok e
 cases r0;refine⟨rs,c,dd,λh' dd' hs=>⟨.ref s.heap.objs.size,_,?_,rfl,q2⟩⟩
 have hz:(Cz [] kvs).length<=sizeLine:=by have h1:=Cq kvs [];rw[List.length_nil] at h1;rw[A11];omega
 have he:∃ q,h'.get? s.heap.objs.size=some q:=let ⟨q,_,_,hq,_⟩:=dd';⟨q,hq⟩;exact Ly I2 (by rw[e];exact A1U) hs he (Pj hz hd (rk.merge .nil) dd')
def IsD (H:Hp)(a:Addr):Prop:=(∃ kvs,Rd H a (.dK kvs))\/∃ kvs,Rd H a (.dT kvs)
section
variable {X:Cx}{pins:List (Addr×Obj)}{σ:St}{H:Hp}{s:Shared}{a:Addr}{y d:V}{u r:Value}{o:Option V}{A:Around}{E:Value->Shared->Prop}
end
def aj0 (td ty:TE):TE:=fun σ H Q=>td σ H λx H1=>∃ a,x = .ref a/\IsD H1 a/\ty σ H1 λy H2=>∃ o,DGet H2 a y o/\Q (o.getD .non) H2
def a94 (td ty tx:TE):TE:=fun σ H Q=>td σ H λx H1=>∃ a,x = .ref a/\IsD H1 a/\ty σ H1 λy H2=>tx σ H2 λz H3=>∃ o,DGet H3 a y o/\Q (o.getD z) H3
section
variable {X:Cx}{o e f:Expr}{apos cpos:Pos}{td ty tx:TE}
end
section
variable {X:Cx}{pins:List (Addr×Obj)}{σ:St}{H:Hp}{s:Shared}{a:Addr}{kvs:List (Key×V)}{A:Around}{E:Value->Shared->Prop}
end
section
variable {X:Cx}{pins:List (Addr×Obj)}{σ:St}{H:Hp}{s:Shared}{a:Addr}{y:V}{u:Value}{A:Around}{E:Value->Shared->Prop}
end
end L2
namespace Att
open PySem PySem.W PySem.Calls PyProof.Rows
theorem J1 {P:Params}{h:Heap}:∀(ns:List Int) (vs:List Value),WellAll P h vs (ns.map WData.int)->IntsAre vs ns:=by
 intro ns
 induction ns with
 |nil=>
   intro vs w;rw[List.map_nil] at w
   cases w;exact .nil
 |cons n ns ih=>
   intro vs w;rw[A0I] at w
   cases w with
   |cons a b=>cases a;exact .cons _ _ (ih _ b)
theorem T5 {l:OpenLaw}{n:Nat}(hn:l.most=some n){P:Params}{h:Heap}{args:List WData}{vals:List Value}
  (hpre:l.row.toRowW.claim.pre args=true) (hwl:WellAll P h vals args) :
  ∃ a vs ns,vals=[Value.ref a]/\args=[WData.list (ns.map WData.int)]/\h.get? a=some {cls:=.type "list",data:=.seq vs.toArray}/\IntsAre vs ns/\ns.length<=n:=by
 have hsh:WShape.hasAll [] args [.list .int]=true:=(pre_splitW hpre).1;have hc:l.pre.holds [] {args:=args}=true:=(pre_splitW hpre).2;obtain⟨d,r,rfl,h1,h2⟩:=hasAllW_cons hsh;obtain rfl:=hasAllW_nil h2;obtain⟨xs,rfl,h3⟩:=hasW_list h1;obtain⟨ns,rfl⟩:=items_int h3
 have hlen:ns.length<=n:=by
  unfold OpenLaw.pre at hc
  have h4:(WTm.not (.lt (.lit (.int (n:Int))) (.len (.arg 0)))).holds [] {args:=[.list (ns.map .int)]}=true:=by have h4:=(holds_andW hc).1;rw[hn] at h4;exact h4
  have h5:=condW_of h4 (w_not (w_lt w_lit (w_len_list (w_arg rfl))));rw[A05] at h5;refine Nat.le_of_not_lt λq=>?_;have q':(n:Int)<((ns.length:Nat):Int):=by omega
  first
   | (rw[A0U q'] at h5;exact absurd h5 nofun)
   | (simp at h5;omega)
 cases hwl with
 |cons w1 w2=>
   cases w2
   cases w1 with
   |list ho hall=>exact⟨_,_,ns,rfl,rfl,ho,J1 ns _ hall,hlen⟩
theorem Sj (l:OpenLaw)(args:List WData):l.row.toRowW.claim.post args (.bool true) args=true:=
 postW_of (r:=l.row.toRowW) (X:=(true==true))
  (show WShape.has [] (.bool true) .bool=true by first | rfl | decide | simp[WShape.has,WShape.arms,WShape.armsAll])
  (show(WTm.eq .res (.lit (.bool true))).value [] {args:=args,res:=some (.bool true),after:=args}=some (.bool (true==true)) from w_eq_bool (w_res rfl) w_lit) rfl
theorem attach_call {l:OpenLaw}{n:Nat}{q:Program}{loose:List Str}{XP:(Str->Option Value)->Heap->Prop}{YP:World->Heap->Prop}{d:DefRec}
  (hn:l.most=some n) (hdf:d.params.defaults=[])
  (call:∀(w:World) (s₀ s₁:Shared) (mg mb:Str->Option Value) (fa:Addr) (o:Obj) (pm cd doc:Value) (a:Addr) (vs:List Value) (ns:List Int),
   Ground q loose [] XP w s₀ mg mb s₁.heap->YP w s₁.heap ->
   s₁.heap.get? fa=some o->o.data = .func (docDef d.name d.params d.body d.scope pm cd doc)->s₁.heap.CodeRec cd d.name->mg d.name=some (.ref fa) ->
   s₁.heap.get? a=some {cls:=.type "list",data:=.seq vs.toArray}->IntsAre vs ns->ns.length<=n->s₁.gens = #[] ->
   codeAny (model l.prog w) callerA (.call (.ref fa) ⟨[.ref a],[]⟩) (λr s'=>r = .ok (.ret (.bool true))/\OldK s₁.heap s'.heap/\s'.os=s₁.os/\AllBare s'.gens) s₁) :
  WalkO q loose XP YP l.row.toRowW d [] (λf vs=>PySem.call f vs):=by
 intro w s₀ s₁ mg mb G Y fa o pm cd doc dV kV ho hd hcd hD hmg hg args vals as hpre hlay hrd hwl hlo;obtain rfl:dV = .none:=Dflts.none hD hdf;obtain rfl:kV = .none:=Dflts.noKw hD;obtain⟨a,vs,ns,rfl,rfl,hobj,hints,hlen⟩:=T5 hn hpre hwl;refine enter_call (A3F (call w s₀ s₁ mg mb fa o pm cd doc a vs ns G Y ho (fd_plain hd) hcd hmg hobj hints hlen hg) λr s' hq=>?_);obtain⟨rfl,h2,h3,h4⟩:=hq;exact⟨.inl ⟨.bool true,.bool true,[],rfl,λ_=>rfl,.bool true,Sj l _,λ_=>⟨List.Pairwise.nil,λ_ hm=>(nomatch hm)⟩⟩,h2,h3,h4⟩
section
variable {prog:Program}{w:World}{A:Around}{E:Value->Shared->Prop}{s:Shared}{K:Frag}
end
end Att
namespace L2
open PySem PySem.Spec PyProof.Rows
theorem Mc:∀ {vs:List Value} {ns:List Int},IntsAre vs ns->Vals (ns.map V.int) vs
 |_,_,.nil=>.nil
 |_,_,.cons n t h=>.cons ⟨t,rfl⟩ (Mc h)
def ao7 (H:Hp):Prop:=∀ b,H b=none\/∃ o xs,H b=some (.frz o (.lst xs))
theorem Vp {P:Program}{w:World}{K:W.Frag}{mg mb:Str->Option Value}{CX:CXT}{k:Nat}{fa a:Addr}{fd:FuncData}{x:Str}{sp:Sp}{s₁:Shared}{vs:List Value}{ns:List Int}
  (KX:K.In s₁.heap) (hns:s₁.heap.Ns mainGlobals mg) (hb:s₁.heap.Ns builtinsNs mb) (hbb:∀ x:Str,x ≠ "__name__" -> mb x=bootBuiltins x) (hlim:s₁.heap.NoLimit) (hg:s₁.gens = #[])
  (ha:s₁.heap.get? a=some {cls:=.type "list",data:=.seq vs.toArray}) (hi:IntsAre vs ns) (hl:ns.length<=sizeLine) (hr:Room k callerA)
  (F:∀ base:Heap,K.In base->base.Ns mainGlobals mg->FnOk P w K mg base CX k fa fd [x] sp) (hbind:∀(s:Shared) (u:Value),BindsTo s fd ⟨[u],[]⟩ [(x,u)])
  (hsp:∀ H:Hp,ao7 H->SqL K H a (ns.map V.int)->sp [.ref a] H (λv _=>v = .bl true) λ_ _ _=>False)
  (hCX:∀ H e s',CX [] H s₁ (λ_ _ _=>False) e s'->False) :
  codeAny (model P w) callerA (.call (.ref fa) ⟨[.ref a],[]⟩) (λr s'=>r = .ok (.ret (.bool true))/\OldK s₁.heap s'.heap/\s'.os=s₁.os/\AllBare s'.gens) s₁:=by
 have rv:=Mc hi;have lenV:=hi.length
 have core:∀ H:Hp,ao7 H->SqL K H a (ns.map V.int)->HOk P w H s₁.heap->(∀ b,H b≠none->b=a)->(H a≠none->K.lookup a=none) ->
   codeAny (model P w) callerA (.call (.ref fa) ⟨[.ref a],[]⟩) (λr s'=>r = .ok (.ret (.bool true))/\OldK s₁.heap s'.heap/\s'.os=s₁.os/\AllBare s'.gens) s₁:=by
  intro H hO hS hok hA hK;have base_of:∀ {b:Addr} {o:Obj},s₁.heap.get? b=some o->H b=none->(We s₁.heap H).get? b=some o:=λe n=>Wl e n
  have noA:∀ {b:Addr} {o:Obj} {es:Array DictEntry} {ep:Nat},s₁.heap.get? b=some o->o.data = .dict es ep->H b=none:=fun {b o es ep} e d=>by
   cases q:H b with
   |none=>rfl
   |some u=>
     have e':b=a:=hA b (by rw[q];simp);subst e';rw[ha] at e;cases e;have d':Data.seq vs.toArray _=Data.dict es ep:=d
     cases d'
  have nsK:∀ {b:Addr} {m:Str->Option Value},s₁.heap.Ns b m->(We s₁.heap H).Ns b m:=fun {b m} ⟨o,es,ep,e,d,r⟩=>⟨o,es,ep,base_of e (noA e d),d,r⟩
  have hKb:K.In (We s₁.heap H):=λb o e=>base_of (KX b o e) (by
   cases q:H b with
   |none=>rfl
   |some u=>have e':b=a:=hA b (by rw[q];simp);subst e';rw[hK (by rw[q];simp)] at e;cases e)
  have hM:Mod K mg (We s₁.heap H):=⟨hKb,nsK hns,⟨mb,nsK hb,hbb⟩,let ⟨mc,h1,h2⟩:=hlim;⟨mc,nsK h1,h2⟩⟩;have e0:Env0 P w K mg (We s₁.heap H) callerA [] s₁ H:=⟨rfl,hM,λb o e=>Z9 e,Nat.le_of_eq (Sb _ _),trivial,λb hb=>absurd (show b∈([]:List Addr) from hb) ∅,hok,.of_eq hg⟩;refine A3F ((F _ hKb (nsK hns)).run callerA [] s₁ H ⟨[.ref a],[]⟩ [.ref a] [.ref a] _ _ hr e0 (hbind s₁ (.ref a)) (.cons rfl .nil) (hsp H hO hS)) λr s' h=>?_
  cases r with
  |error e=>exact(hCX H e s' h).elim
  |ok fl=>
    cases fl with
    |next=>exact False.elim h
    |brk=>exact False.elim h
    |cont=>exact False.elim h
    |ret u=>
      obtain⟨v,H',os,bare,un,hok',r',q⟩:=h;have q':v = .bl true:=q;subst q';obtain rfl:u=Value.bool true:=r';refine⟨rfl,OldK.of_keep λb o e=>?_,os,bare⟩
      cases q:H b with
      |none=>exact un.keep b o e q (by intro z;exact absurd (show b∈([]:List Addr) from z) ∅) ∅
      |some u=>
        rcases hO b with z|⟨ob,xs,z⟩
        . rw[q] at z;cases z
        have z2:=un.frzs b ob _ z;obtain⟨e1,_⟩:=hok b _ z;obtain⟨e2,_⟩:=hok' b _ z2;rw[e] at e1;cases e1;exact e2
 cases hk:K.lookup a with
 |some o=>
   have e:=KX a o hk;rw[ha] at e
   cases e;refine core (λ_=>none) (λ_=>.inl rfl) (.inr ⟨_,vs.toArray,_,hk,rfl,rfl,rfl,by rw[List.size_toArray,lenV];exact hl,by simpa using rv⟩) (λb u z=>by have z':(none:Option HO)=some u:=z;cases z') (λb z=>absurd rfl z) λz=>absurd rfl z
 |none=>
   refine core (λb=>if b=a then some (.frz {cls:=.type "list",data:=.seq vs.toArray} (.lst (ns.map V.int))) else none) (λb=>?_) (.inl (.inr ⟨{cls:=.type "list",data:=.seq vs.toArray},A0Q rfl⟩)) (λb u z=>?_) (λb z=>?_) λ_=>hk
   . by_cases hb:b=a
     . exact .inr ⟨_,_,A0Q hb⟩
     exact .inl (A0L hb)
   . by_cases hb:b=a
     . have z':=(A0Q hb).symm.trans z
       cases z';subst hb;exact⟨ha,by rw[A05];exact hl,vs,_,rv,ha⟩
     have z':=(A0L hb).symm.trans z
     cases z'
   by_cases hb:b=a
   . exact hb
   exact absurd (A0L hb) z
theorem walk_of {l:W.OpenLaw}{n k:Nat}{q:Program}{loose:List Str}{XP:(Str->Option Value)->Heap->Prop}{YP:World->Heap->Prop}{d:DefRec}{K:Params->W.Frag}{CX:World->CXT}{sp:World->Sp}{x:Str}
  (hn:l.most=some n) (hn2:n<=sizeLine) (hdf:d.params.defaults=[]) (hr:Room k callerA)
  (hY:∀(w:World) (h:Heap),YP w h->(K w.params).In h)
  (F:∀(w:World) (mg:Str->Option Value) (fa:Addr) (h:Heap),(K w.params).In h->h.Ns mainGlobals mg->mg d.name=some (.ref fa) ->
   ∃ fd:FuncData,(∀(s:Shared) (u:Value),BindsTo s fd ⟨[u],[]⟩ [(x,u)]) /\
    ∀ base:Heap,(K w.params).In base->base.Ns mainGlobals mg->FnOk l.prog w (K w.params) mg base (CX w) k fa fd [x] (sp w))
  (hsp:∀(w:World) (H:Hp) (a:Addr) (ns:List Int),ns.length<=n->ao7 H->SqL (K w.params) H a (ns.map V.int)->sp w [.ref a] H (λv _=>v = .bl true) λ_ _ _=>False)
  (hCX:∀(w:World) (H:Hp) (s:Shared) (e:Value) (s':Shared),CX w [] H s (λ_ _ _=>False) e s'->False) :
  W.WalkO q loose XP YP l.row.toRowW d [] (λf vs=>PySem.call f vs):=by
 refine Att.attach_call hn hdf λw s₀ s₁ mg mb fa o pm cd doc a vs ns G Y ho hd hcd hmg hobj hints hlen hg=>?_;have KX:=hY w _ Y;obtain⟨fd,hb,hF⟩:=F w mg fa _ KX G.T.g hmg;exact Vp KX G.T.g G.T.b G.T.builtins G.T.nolimit hg hobj hints (A0P hlen hn2) hr hF hb (λH hO hS=>hsp w H a ns hlen hO hS) λH e s'=>hCX w H s₁ e s'
def a53 (s:Stmt)(j:Nat):Stmt:=match s with
 |.ClassDef _ _ _ body _ _ _ _ _ _ _=>body.getD j (.Pass ⟨0,0,0,0⟩)
 |_=>.Pass ⟨0,0,0,0⟩
def Bo (s:Stmt):Arguments:=match s with
 |.FunctionDef _ a _ _ _ _ _ _ _ _=>a
 |_=>{posonlyargs:=[],args:=[],vararg:=none,kwonlyargs:=[],kw_defaults:=[],kwarg:=none,defaults:=[]}
def Bc (s:Stmt):List Stmt:=match s with
 |.FunctionDef _ _ b _ _ _ _ _ _ _=>b
 |_=>[]
def A9 (s:Stmt):Scope:=match s with
 |.FunctionDef _ _ _ _ _ _ sc _ _ _=>sc
 |_=>{kind:=.function,names:=[],isGenerator:=false,isCoroutine:=false}
abbrev CX0:CXT:=λ_ _ _ _ _ _=>False
abbrev E0:XK:=λ_ _ _=>False
theorem am9 {X:Cx}:Nj CX0 X E0:=λ_ _ _ _ _ _ _ h=>h.elim
structure Fun (K:W.Frag)(x qual:Str)(st:Stmt)(f:Addr)(fd:FuncData):Prop where
 ex:∃(oc:Value) (od:Option Addr) (kV doc pm:Value) (an:Option Addr) (cdv ct:Value) (osl:Array (Option Value)),
  fd=W.fnOf x qual (Bo st) (Bc st) (A9 st) .none kV doc pm an cdv ct/\K.lookup f=some ⟨oc,od,.func fd,osl⟩/\W.codeIn K cdv qual=true
 kp:W.keepIn K (.ref f)=true
section
variable {P:Program}{w:World}{K:W.Frag}{mg:Str->Option Value}{base:Heap}
theorem Fun.ok {x qual:Str}{st:Stmt}{f:Addr}{fd:FuncData}{N ps:List Str}{k:Nat}{sp:Sp}(F:Fun K x qual st f fd)(S:Ai N ps (A9 st))(len:∀ vs H Q E,sp vs H Q E->vs.length=ps.length)
  (hbody:∀(cdv:Value) (A:Around) (outer:List Env) (s:Shared) (H:Hp) (vs:List V) (Q:VK) (E:XK),Room k (A.deeper (envOfC qual (A9 st) s.heap.objs.size f cdv))->sp vs H Q E ->
   ∃ t,PSs (V9 CX0 P w K mg base N qual (A9 st) f cdv A outer s H E).nox (Bc st) t/\t {nx:=λ_ H'=>Q .non H',rt:=Q} (L5 N vs) H):FnOk P w K mg base CX0 (k+1) f fd ps sp:=by
 obtain⟨oc,od,kV,doc,pm,an,cdv,ct,osl,rfl,lk,hcd⟩:=F.ex;refine a84 lk hcd S len λA outer s H vs Q E hr hsp=>?_;obtain⟨t,h,q⟩:=hbody cdv A outer s H vs Q E hr hsp;exact⟨t,h.nox,q⟩
theorem Fun.binds {x qual:Str}{st:Stmt}{f:Addr}{fd:FuncData}{ps:List Str}(F:Fun K x qual st f fd)
  (h:∀(kV doc pm:Value) (an:Option Addr) (cdv ct:Value) (us:List Value),us.length=ps.length->bindArgs (W.fnOf x qual (Bo st) (Bc st) (A9 st) .none kV doc pm an cdv ct) ⟨us,[]⟩=pure (ps.zip us)):Binds K fd ps []:=by
 obtain⟨oc,od,kV,doc,pm,an,cdv,ct,osl,rfl,lk,hcd⟩:=F.ex;exact .all (h kV doc pm an cdv ct)
theorem Tv {x qual:Str}{st:Stmt}{f:Addr}{oc:Value}{od an:Option Addr}{osl:Array (Option Value)}{kV doc pm cdv ct:Value}(l:K.lookup f=some ⟨oc,od,.func (W.fnOf x qual (Bo st) (Bc st) (A9 st) .none kV doc pm an cdv ct),osl⟩)
  (c:W.codeIn K cdv qual=true) (k:W.keepIn K (.ref f)=true):Fun K x qual st f (W.fnOf x qual (Bo st) (Bc st) (A9 st) .none kV doc pm an cdv ct):=⟨⟨oc,od,kV,doc,pm,an,cdv,ct,osl,rfl,l,c⟩,k⟩
end
theorem C4 {A:Around}{k:Nat}(hr:Room k A):A.units+1<cLine:=Nat.lt_of_le_of_lt (Nat.add_le_add_left (by decide:1<=64) _) hr.units
theorem Ug {n:Nat}(h:n<=1000):n<sizeLine:=Nat.lt_of_le_of_lt h nofun
section
variable {X:Cx}
theorem pv (i:Nat){x:Str}{pos:Pos}(hN:X.N[i]? = some x:=by ac_nf)(hv:Vis X.env.scope x:=by with_unfolding_all first | exact Or.inl rfl | exact Or.inr (Or.inl rfl) | exact Or.inr (Or.inr rfl))(hd:(x==("__debug__":Str))=false:=by decide)
  (hcd:(x==("__classdict__":Str))=false:=by decide):PE X (.Name x pos) (ap2 i):=ab0 hN hv hd hcd
end
theorem iteF {A B:Prop}(h:B):if false=true then A else B:=by rw[A0L A0B];exact h
theorem iteT {A B:Prop}(h:A):if true=true then A else B:=by rw[A0Q rfl];exact h
def Same (H H':Hp):Prop:=∀ b o,H b=some o->H' b=some o
theorem Same.refl (H:Hp):Same H H:=λ_ _ h=>h
theorem Same.trans {H H1 H2:Hp} (a:Same H H1) (b:Same H1 H2):Same H H2:=λc o h=>b c o (a c o h)
theorem Same.free {H H':Hp}(e:Same H H'){l:Addr}(h:H' l=Option.none):H l=Option.none:=by
 cases q:H l with
 |none=>rfl
 |some o=>
   rw[e l o q] at h
   cases h
theorem Same.seq {K:W.Frag}{H H':Hp}{a:Addr}{xs:List V}(e:Same H H')(h:SqL K H a xs):SqL K H' a xs:=by
 rcases h with (h|⟨o,h⟩)|h
 . exact .inl (.inl (e _ _ h))
 . exact .inl (.inr ⟨o,e _ _ h⟩)
 exact .inr h
section
variable {X:Cx}
theorem Ut:CallR X (.builtin "len") (λxs H Q=>∃ a kvs,xs=[V.ref a]/\H a=some (.dK kvs)/\Q (.int kvs.length) H):=by
 intro pins s σ H xs us Q I r h;obtain⟨a,kvs,rfl,ha,q⟩:=h;obtain⟨u,rfl,ru⟩:=Oh r
 cases ru;exact al0 I (.inl ha) λt s' I'=>⟨.int kvs.length,H,I',⟨t,rfl⟩,q⟩
end
section
variable {κ:Type}[DecidableEq κ]
theorem W5 {kvs:List (κ×V)}{k:κ}(h:Cf kvs k=none):¬ k∈kvs.map (·.1):=by intro m;obtain⟨p,hp,e⟩:=A09.mp m;have q:(kvs.any λkv=>decide (kv.1=k))=true:=A1D.mpr ⟨p,hp,A0U e⟩;rw [Dq,h] at q;exact absurd q ∅
theorem Ta:∀ {l:List κ} {k:κ},l.Nodup->¬ k∈l->(l++[k]).Nodup
 | [],k,_,_=>by simp
 |a :: r,k,h,hk=>by
   obtain⟨h1,h2⟩:=A0T.mp h;show(a :: (r++[k])).Nodup;refine A0T.mpr ⟨λm=>?_,Ta h2 λm=>hk (A0D.mpr (Or.inr m))⟩;rcases A08.mp m with q|q
   . exact h1 q
   exact hk (A0D.mpr (Or.inl (A12.mp q).symm))
theorem a55 {kvs:List (κ×V)}{k:κ}(v:V)(hn:(kvs.map (·.1)).Nodup)(h:Cf kvs k=none):((D9 kvs k v).map (·.1)).Nodup:=by rw[Pp v h,A19];exact Ta hn (W5 h)
end
def Hz (env:Env)(names:List (Str×NameKind))(acc:List (Str×Addr)):List (Str×Addr):=
 names.foldl (λacc y=>if y.2==NameKind.free then(y.1,(env.cells.lookup y.1).getD 0) :: acc else acc) acc
theorem Ko {env:Env}{scope:Scope}(h:∀ y∈scope.names,y.2=NameKind.free->∃ c,env.cells.lookup y.1=some c):closureFor scope env=pure (Hz env scope.names []):=by
 have all:∀(names:List (Str×NameKind)) (acc:List (Str×Addr)),(∀ y∈names,y.2=NameKind.free->∃ c,env.cells.lookup y.1=some c) ->
   (forIn names acc λ(y:Str×NameKind) (cs:List (Str×Addr))=>(match y with
    | (name,kind)=>if(kind==NameKind.free)=true then do let c <- cellOf env name;pure (ForInStep.yield ((name,c) :: cs)) else pure (ForInStep.yield cs):Sem (ForInStep (List (Str×Addr)))))=(pure (Hz env names acc):Sem (List (Str×Addr))):=by
  intro names
  induction names with
  |nil=>intro acc _;rfl
  |cons y r ih=>
    intro acc hy;obtain⟨n,k⟩:=y;rw[List.forIn_cons]
    by_cases hk:k=NameKind.free
    . subst hk;obtain⟨c,hc⟩:=hy (n,.free) A0J rfl;have e:cellOf env n=pure c:=by unfold cellOf;rw[show env.cells.lookup n=some c from hc]
      have e2:Hz env ((n,NameKind.free) :: r) acc=Hz env r ((n,c) :: acc):=by unfold Hz;rw[A4D];simp only[beq_self_eq_true,if_true];rw[show env.cells.lookup n=some c from hc];rfl
      rw[e2,<- ih ((n,c) :: acc) λz hz=>hy z (A0C _ hz)];simp only[beq_self_eq_true,if_true,e];rfl
    have hb:(k==NameKind.free)=false:=by simpa using hk
    have e2:Hz env ((n,k) :: r) acc=Hz env r acc:=by unfold Hz;rw[A4D];simp only[hb,Bool.false_eq_true,if_false]
    rw[e2,<- ih acc λz hz=>hy z (A0C _ hz)];simp only[hb,Bool.false_eq_true,if_false];rfl
 have q:=all scope.names [] h;unfold closureFor
 first
  |exact q
  | (simp only[bind_pure];exact q)
  | (refine Eq.trans ?_ q;rfl)
theorem P8 {env:Env}{x:Str}{c:Addr}:∀ {names:List (Str×NameKind)} {acc:List (Str×Addr)},(∀ y∈names,y.2=NameKind.free->∃ c,env.cells.lookup y.1=some c)->(acc.lookup x=some c->env.cells.lookup x=some c) ->
  (Hz env names acc).lookup x=some c->env.cells.lookup x=some c
 | [],acc,_,ha,h=>ha h
 | (n,k) :: r,acc,hn,ha,h=>by
   have e:Hz env ((n,k) :: r) acc=Hz env r (if k==NameKind.free then(n,(env.cells.lookup n).getD 0) :: acc else acc):=rfl
   rw[e] at h;refine P8 (λy hy=>hn y (A0C _ hy)) (λq=>?_) h
   by_cases hk:k=NameKind.free
   . subst hk;simp only[beq_self_eq_true,if_true,List.lookup_cons] at q;obtain⟨d,hd⟩:=hn (n,.free) A0J rfl;have hd':env.cells.lookup n=some d:=hd
     split at q
     . rename_i hx;have hx':x=n:=A1Z.mp hx;rw[hd'] at q;rw[hx',hd'];exact q
     exact ha q
   have hb:(k==NameKind.free)=false:=by simpa using hk
   simp only[hb,Bool.false_eq_true,if_false] at q;exact ha q
theorem Ll {env:Env}{x:Str}:∀ {names:List (Str×NameKind)} {acc:List (Str×Addr)},((∃ c,acc.lookup x=some c)\/(x,NameKind.free)∈names)->∃ c,(Hz env names acc).lookup x=some c
 | [],acc,h=>by
   rcases h with h|h
   . exact h
   cases h
 | (n,k) :: r,acc,h=>by
   have e:Hz env ((n,k) :: r) acc=Hz env r (if k==NameKind.free then(n,(env.cells.lookup n).getD 0) :: acc else acc):=rfl
   rw[e];refine Ll ?_
   by_cases hk:k=NameKind.free
   . subst hk;simp only[beq_self_eq_true,if_true,List.lookup_cons]
     by_cases hx:x=n
     . left;have hb:(x==n)=true:=A1Z.mpr hx;rw[hb];exact⟨_,rfl⟩
     have hb:(x==n)=false:=A0S.mpr hx;rw[hb];rcases h with h|h
     . exact .inl h
     rcases A0D.mp h with q|q
     . cases q;exact absurd rfl hx
     exact .inr q
   have hb:(k==NameKind.free)=false:=by simpa using hk
   simp only[hb,Bool.false_eq_true,if_false];rcases h with h|h
   . exact .inl h
   rcases A0D.mp h with q|q
   . cases q;exact absurd rfl hk
   exact .inr q
theorem C2:∀(names:List (Str×NameKind)) (n:Nat) (acc:List (Str×Addr)),cellsFrom n names acc=cellsFrom n names []++acc
 | [],_,_=>rfl
 | (x,k) :: r,n,acc=>by
   unfold cellsFrom
   split
   . rw[C2 r (n+1) ((x,n) :: acc),C2 r (n+1) [(x,n)],A1I];rfl
   exact C2 r n acc
theorem Gw {x:Str}{c:Addr}:∀ {names:List (Str×NameKind)} {n:Nat},(x,c)∈cellsFrom n names []->(x,NameKind.cell)∈names
 | [],_,h=>by cases h
 | (y,k) :: r,n,h=>by
   unfold cellsFrom at h
   split at h
   . rename_i hk;rw[C2] at h;rcases A08.mp h with h|h
     . exact A0C _ (Gw h)
     have e:=A12.mp h
     cases e;rw[A1Z.mp hk];exact A0J
   exact A0C _ (Gw h)
theorem Jx {α:Type}{x:Str}{c:α}:∀ {l:List (Str×α)},(x,c)∈l->∃ d,l.lookup x=some d
 | [],h=>by cases h
 | (y, d) :: r,h=>by
   rw[A1H]
   cases e:x==y with
   |true=>exact⟨d,rfl⟩
   |false=>
     rcases A0D.mp h with q|q
     . cases q;simp at e
     exact Jx q
theorem G4 {x:Str}:∀ {names:List (Str×NameKind)} {n:Nat},(x,NameKind.cell)∈names->∃ c,(x,c)∈cellsFrom n names []
 | [],_,h=>by cases h
 | (y,k) :: r,n,h=>by
   unfold cellsFrom
   split
   . rw[C2];rcases A0D.mp h with q|q
     . cases q;exact⟨n,A0K _ ∅⟩
     obtain⟨c,hc⟩:=G4 (n:=n+1) q;exact⟨c,A0M _ hc⟩
   rename_i hk;rcases A0D.mp h with q|q
   . cases q;exact absurd rfl hk
   exact G4 q
def Px (outer scope:Scope)(xs fr:List Str):Bool:=
 (scope.kind == .function)&&(outer.kind == .function)&&decide (scope.names.map (·.1)).Nodup
 && (scope.names.all λy=>y.2 != .local||scope.names.lookup y.1==some .local)
 && (scope.names.all λy=>y.2 != .free||(outer.names.lookup y.1==some .cell||outer.names.lookup y.1==some .free))
 && (scope.names.all λy=>y.2 != .free||scope.names.lookup y.1==some .free)
 && (xs.all λx=>scope.names.lookup x==some .local||scope.names.lookup x==some .cell)&&(fr.all λx=>scope.names.lookup x==some .free)&&decide (xs++fr).Nodup
theorem Bz {α:Type}{x:Str}{v:α}:∀ {l:List (Str×α)},l.lookup x=some v->(x,v)∈l
 | [],h=>by cases h
 | (n,k) :: r,h=>by
   rw[A1H] at h
   split at h
   . rename_i hx;have hx':x=n:=A1Z.mp hx
     cases h;rw[hx'];exact A0J
   exact A0C _ (Bz h)
theorem F3 {scope:Scope}{env:Env}{x:Str}{k:NameKind}(hk:env.scope.kind = .function):∀ {names:List (Str×NameKind)},names.lookup x=some k ->
  (names.map λ(n,k)=>if(k==NameKind.free&&env.scope.kind == .function&&env.kindOf n==some .cell) then(n,NameKind.cell) else(n,k)).lookup x=some (if(k==NameKind.free&&env.kindOf x==some .cell) then .cell else k)
 | [],h=>by cases h
 | (n,j) :: r,h=>by
   have ih:=@F3 scope env x k hk r;rw[A0I];rw[A1H] at h;dsimp only
   split at h
   . rename_i hx;have hx':x=n:=A1Z.mp hx
     cases h;subst hx'
     by_cases hc:(k==NameKind.free&&env.scope.kind == .function&&env.kindOf x==some .cell)=true
     . have hc2:(k==NameKind.free&&env.kindOf x==some .cell)=true:=by rw[A0Z,A0Z] at hc;rw[A0Z];exact⟨hc.1.1,hc.2⟩
       rw[A0Q hc,A0Q hc2,A1H,A3H]
     have hc2:¬ (k==NameKind.free&&env.kindOf x==some .cell)=true:=λq=>hc (by rw[A0Z] at q;rw[A0Z,A0Z,hk];exact⟨⟨q.1,rfl⟩,q.2⟩)
     rw[A0L hc,A0L hc2,A1H,A3H]
   rename_i hx;have hx':(x==n)=false:=by simpa using hx
   by_cases hc:(j==NameKind.free&&env.scope.kind == .function&&env.kindOf n==some .cell)=true
   . rw[A0Q hc,A1H,hx'];exact ih h
   rw[A0L hc,A1H,hx'];exact ih h
theorem Dm {env:Env} {x:Str} {k:NameKind}:∀ {names:List (Str×NameKind)},
  (names.map λ(n,k)=>if(k==NameKind.free&&env.scope.kind == .function&&env.kindOf n==some .cell) then(n,NameKind.cell) else(n,k)).lookup x=some k ->
  ∃ j,names.lookup x=some j/\(k=j\/(j = .free/\k = .cell))
 | [],h=>by cases h
 | (n,j) :: r,h=>by
   have ih:=@Dm env x k r;rw[A0I] at h;dsimp only at h
   by_cases hc:(j==NameKind.free&&env.scope.kind == .function&&env.kindOf n==some .cell)=true
   . rw[A0Q hc,A1H] at h
     have hj:j = .free:=by rw[A0Z,A0Z] at hc;exact A1Z.mp hc.1.1
     rw[A1H]
     split at h
     . rename_i hx
       cases h;exact⟨j,rfl,.inr ⟨hj,rfl⟩⟩
     rename_i hx;have hx':(x==n)=false:=by simpa using hx
     exact ih h
   rw[A0L hc,A1H] at h;rw[A1H]
   split at h
   . rename_i hx
     cases h;exact⟨_,rfl,.inl rfl⟩
   rename_i hx;have hx':(x==n)=false:=by simpa using hx
   exact ih h
structure CompS (X:Cx)(scope:Scope)(xs fr:List Str):Prop where
 kind:scope.kind = .function
 okind:X.env.scope.kind = .function
 uniq:(scope.names.map (·.1)).Nodup
 names:∀ y∈scope.names,y.2 = .local->scope.names.lookup y.1=some .local
 free:∀ y∈scope.names,y.2 = .free->X.env.kindOf y.1=some .cell\/X.env.kindOf y.1=some .free
 own:∀ x∈xs,scope.names.lookup x=some .local\/scope.names.lookup x=some .cell
 fre:∀ x∈fr,scope.names.lookup x=some .free
 nd:(xs++fr).Nodup
theorem P0 {X:Cx}{scope:Scope}{xs fr:List Str}(h:Px X.env.scope scope xs fr=true):CompS X scope xs fr:=by unfold Px at h;simp only[Bool.and_eq_true,List.all_eq_true,bne_iff_ne,Bool.or_eq_true,beq_iff_eq,decide_eq_true_eq] at h;obtain⟨⟨⟨⟨⟨⟨⟨⟨h1,h2⟩,h3⟩,h4⟩,h5⟩,h6⟩,h7⟩,h8⟩,h9⟩:=h;exact⟨h1,h2,h3,λy hy e=>(h4 y hy).resolve_left (λq=>q e),λy hy e=>(h5 y hy).resolve_left (λq=>q e),h7,h8,h9⟩
def N4 (σ:St)(js:List Nat):St:=js.map λj=>(σ[j]?).getD none
abbrev cxC (X:Cx)(scope:Scope)(xs fr:List Str)(C:Addr)(ex:List Addr)(s₀:Shared)(H₀:Hp):Cx:=
 {X with N:=xs++fr,env:=compEnvC scope (cellsFrom (C+1) scope.names (Hz X.env scope.names [])) C X.env,s₀:=s₀,H₀:=H₀,outer:=X.stack,ex:=ex,fn:=λx=>scope.names.lookup x==some .cell,pn:=[],xe:=λ_ _=>False}
section
variable {X:Cx}{scope:Scope}{xs fr:List Str}{pins:List (Addr×Obj)}{σ:St}{H:Hp}{s:Shared}{js:List Nat}{fp:List Addr}
theorem Mp {α:Type}{x:Str}{v:α}:∀ {l:List (Str×α)},(l.map (·.1)).Nodup->(x,v)∈l->l.lookup x=some v
 | [],_,h=>by cases h
 | (y,d) :: r,hn,h=>by
   obtain⟨h1,h2⟩:=A0T.mp hn;rw[A1H];rcases A0D.mp h with q|q
   . cases q;rw[A3H]
   have hne:(x==y)=false:=A0S.mpr λe=>h1 (e ▸ A09.mpr ⟨(x,v),q,rfl⟩);rw[hne];exact Mp h2 q
theorem CompS.cells (S:CompS X scope xs fr)(ok:X.Ok):∀ y∈scope.names,y.2=NameKind.free->∃ c,X.env.cells.lookup y.1=some c:=λy hy e=>ok.has _ (S.free y hy e)
theorem X4 (S:CompS X scope xs fr)(hjs:js.map (λj=>X.N[j]?)=fr.map some)(I:Inv X pins σ H s)(hfp:∀ b∈fp,Pn X pins H b)(hob:∀ b∈fp,∃ o,s.heap.get? b=some o){h':Heap}{t':Nat}
  (hn:h'.Ns s.heap.objs.size λ_=>none) (keep:∀ b o,s.heap.get? b=some o->h'.get? b=some o) (hcs:CellsOk h' (s.heap.objs.size+1) (cellsFrom (s.heap.objs.size+1) scope.names [])) :
  Inv (cxC X scope xs fr s.heap.objs.size fp s H) [] (List.replicate xs.length none++N4 σ js) H {s with heap:=h',toks:=t'}:=by
 have hcl:=S.cells I.ok;have sub:∀ x c,(Hz X.env scope.names []).lookup x=some c->X.env.cells.lookup x=some c:=λx c h=>P8 hcl (λq=>by cases q) h;have hl:js.length=fr.length:=by have:=congrArg List.length hjs;rwa[A05,A05] at this
 have two:∀ x c,(cellsFrom (s.heap.objs.size+1) scope.names (Hz X.env scope.names [])).lookup x=some c->(x,c)∈cellsFrom (s.heap.objs.size+1) scope.names []\/(Hz X.env scope.names []).lookup x=some c:=λx c h=>by
  rw[C2,A3Q] at h
  cases e:(cellsFrom (s.heap.objs.size+1) scope.names []).lookup x with
  |some d=>
    rw[e] at h
    cases h;exact .inl (Bz e)
  |none=>rw[e] at h;exact .inr h
 have oldc:∀ x c,X.env.cells.lookup x=some c->c<s.heap.objs.size:=λx c h=>let ⟨_,_,ho,_⟩:=I.cell x c h;A07 ho;have newc:∀ x c,(x,c)∈cellsFrom (s.heap.objs.size+1) scope.names []->s.heap.objs.size<c:=λx c h=>(hcs.empty x c h).2
 refine⟨⟨I.ok.mod,S.kind,I.ok.glob,I.ok.blt,A0A _,λx y c h1 h2=>?_,λx hx=>?_,λx c hf h=>?_,I.ok.hd,I.ok.frames,.inl rfl,λb hb=>?_,λb o e=>I.bs b o e,A0P I.ok.bsz I.sz,λb o e hb=>?_,λb hb hb2=>?_,I.stack,I.stkFree⟩,
  rfl,I.bare,Un.kept keep,⟨_,hn,λi x v e1 e2 e3=>?_⟩,λx c h=>?_,I.hok.fresh (A0A _),λx c h=>?_,λp hp=>absurd (show p∈([]:List (Addr×Obj)) from hp) ∅,I.hok.kept keep,?_⟩
 . rcases two x c h1 with g1|g1
   . rcases two y c h2 with g2|g2
     . exact name_of_addr hcs.apart g1 g2
     exact absurd (oldc y c (sub y c g2)) (Nat.not_lt.mpr (A2E (newc x c g1)))
   rcases two y c h2 with g2|g2
   . exact absurd (oldc x c (sub x c g1)) (Nat.not_lt.mpr (A2E (newc y c g2)))
   exact I.ok.inj x y c (sub x c g1) (sub y c g2)
 . -- the names that are cells there have one
   have hx:(relabel scope X.env).names.lookup x=some .cell\/(relabel scope X.env).names.lookup x=some .free:=hx
   have app:∀ c,(Hz X.env scope.names []).lookup x=some c\/(x,c)∈cellsFrom (s.heap.objs.size+1) scope.names []->∃ c,(cellsFrom (s.heap.objs.size+1) scope.names (Hz X.env scope.names [])).lookup x=some c:=λc h=>by
    rw[C2,A3Q];rcases h with h|h
    . cases (cellsFrom (s.heap.objs.size+1) scope.names []).lookup x with
      |some d=>exact⟨d,rfl⟩
      |none=>exact⟨c,h⟩
    obtain⟨d,hd⟩:=Jx h;rw[hd];exact⟨d,rfl⟩
   have go:∀ k,(relabel scope X.env).names.lookup x=some k->(k = .cell\/k = .free)->∃ c,(cellsFrom (s.heap.objs.size+1) scope.names (Hz X.env scope.names [])).lookup x=some c:=λk e hk=>by
    obtain⟨j,hj,q⟩:=Dm (env:=X.env) (names:=scope.names) e;have hm:=Bz hj
    have hjf:j = .free\/j = .cell:=by
     rcases q with q|q
     . rcases hk with hk|hk
       . exact .inr (q ▸ hk)
       exact .inl (q ▸ hk)
     exact .inl q.1
    rcases hjf with hjf|hjf
    . subst hjf;obtain⟨c,hc⟩:=Ll (env:=X.env) (x:=x) (names:=scope.names) (acc:=[]) (.inr hm);exact app c (.inl hc)
    subst hjf;obtain⟨c,hc⟩:=G4 (n:=s.heap.objs.size+1) hm;exact app c (.inr hc)
   rcases hx with hx|hx
   . exact go _ hx (.inl rfl)
   exact go _ hx (.inr rfl)
 . rcases two x c h with g|g
   . exact A2E (newc x c g)
   have hf':scope.names.lookup x=some .cell:=by simpa using hf
   obtain⟨d,hd⟩:=G4 (n:=s.heap.objs.size+1) (Bz hf');have h':=h;obtain⟨e,he⟩:=Jx hd;have h':(cellsFrom (s.heap.objs.size+1) scope.names (Hz X.env scope.names [])).lookup x=some c:=h;rw[C2,A3Q,he] at h'
   cases h';exact A2E (newc x _ (Bz he))
 . obtain⟨f0,f1,f2,f3,f4,f5⟩:=hfp b hb;obtain⟨o,ho⟩:=hob b hb;refine⟨A0O (A07 ho),λx c h z=>?_⟩;rcases two x c h with g|g
   . have h1:=newc x c g;have h2:=A07 ho;rw[<- z] at h2;exact absurd h1 (Nat.not_lt.mpr (A2E h2))
   exact f4 x c (sub x c g) z
 . obtain⟨f0,f1,f2,f3,f4,f5⟩:=hfp b hb;rcases f3 with f3|f3
   . exact I.ok.noex b o e f3
   exact absurd (A0V (A07 (I.ok.bs b o e).1) f3) (A25 _)
 . obtain⟨f0,f1,f2,f3,f4,f5⟩:=hfp b hb;rcases A0D.mp (I.stkSub b hb2) with z|z
   . exact f1 z
   exact f2 z
 . have e1:(xs++fr)[i]? = some x:=e1
   by_cases hi:i<xs.length
   . rw[A1K (by rw[A1B];exact hi),A34,A0Q hi] at e2
     cases e2
   have hi':xs.length<=i:=Nat.le_of_not_lt hi;rw[A1S hi'] at e1;rw[A1S (by rw[A1B];exact hi'),A1B] at e2;unfold N4 at e2;rw[A0G] at e2
   cases ej:js[i-xs.length]? with
   |none=>rw[ej] at e2;cases e2
   |some j=>
     rw[ej] at e2;have e2':(σ[j]?).getD none=some v:=A0X e2
     have e4:σ[j]? = some (some v):=by
      cases q:σ[j]? with
      |none=>rw[q] at e2';cases e2'
      |some o=>rw[q] at e2';rw[show o=some v from e2']
     have e5:X.N[j]? = some x:=by have:=congrArg (λl=>l[i-xs.length]?) hjs;rw[A0G,A0G,ej,e1] at this;exact A0X this
     have hf:=S.fre x (A06 e1);have hk:=S.free _ (Bz hf) rfl;obtain⟨m,hm,hl'⟩:=I.loc;obtain⟨u,r,lk⟩:=hl' j x v e5 e4 (.inr hk);refine⟨u,r,.inr ⟨?_,?_⟩⟩
     . have q:=F3 (scope:=scope) (env:=X.env) S.okind hf;show(relabel scope X.env).names.lookup x=some .cell\/(relabel scope X.env).names.lookup x=some .free;have q':(relabel scope X.env).names.lookup x=some (if(NameKind.free==NameKind.free&&X.env.kindOf x==some .cell) then .cell else .free):=q
       by_cases hc:(NameKind.free==NameKind.free&&X.env.kindOf x==some .cell)=true
       . rw[A0Q hc] at q';exact .inl q'
       rw[A0L hc] at q';exact .inr q'
     obtain⟨c',hc'⟩:=Ll (env:=X.env) (x:=x) (names:=scope.names) (acc:=[]) (.inr (Bz hf));rcases lk with ⟨z,_⟩|⟨_,c,hc,ob,ho,hd⟩
     . rcases hk with hk|hk
       . rw[z] at hk;cases hk
       rw[z] at hk;cases hk
     have e6:c=c':=by have:=sub x c' hc';rw[hc] at this;exact A0X this
     subst e6;refine⟨_,?_,ob,keep _ _ ho,hd⟩;show(cellsFrom (s.heap.objs.size+1) scope.names (Hz X.env scope.names [])).lookup x=some c;rw [C2,A3Q]
     have none':(cellsFrom (s.heap.objs.size+1) scope.names []).lookup x=none:=by
      cases e:(cellsFrom (s.heap.objs.size+1) scope.names []).lookup x with
      |none=>rfl
      |some d=>
        have:=Mp S.uniq (Gw (Bz e));rw[hf] at this
        cases this
     rw[none'];exact hc'
 . rcases two x c h with g|g
   . exact⟨_,(hcs.empty x c g).1⟩
   obtain⟨v,ob,ho,hd⟩:=I.cell x c (sub x c g);exact⟨v,ob,keep _ _ ho,hd⟩
 . rcases two x c h with g|g
   . exact I.hok.fresh (A2E (newc x c g))
   exact I.freeC x c (sub x c g)
 show _=(xs++fr).length;unfold N4;rw[A0H,A0H,A1B,A05,hl]
theorem Tl {M:Model}{A:Around}{E:Value->Shared->Prop}{s:Shared}{scope:Scope}{globals:Addr}{cl:List (Str×Addr)}{qual:Str}{env:Env}{Q:Env->Shared->Prop}
  (hQ:∀ h',h'.Ns s.heap.objs.size (λ_=>none)->(∀ b o,s.heap.get? b=some o->h'.get? b=some o)->CellsOk h' (s.heap.objs.size+1) (cellsFrom (s.heap.objs.size+1) scope.names []) ->
   Q (newEnv scope s.heap.objs.size globals (cellsFrom (s.heap.objs.size+1) scope.names cl) qual none .none (some env) builtinsNs) {s with heap:=h'}) :
  wpAny M A (newFunctionEnv scope globals cl [] qual none .none (some env)) Q E s:=by
 simp only[newFunctionEnv,Option.isSome_some,if_true];refine A00 (wpAny_alloc ?_);refine wpAny_bind (wpAny_layCells _ (λname kind cells=>by cases hkc:kind==NameKind.cell<;>simp[hkc]) _ _ _ _ ?_)
 have okc:=cellsFrom_ok scope.names (s.heap.push {cls:=.type "dict",data:=.dict #[]}) (s.heap.objs.size+1) [] ⟨λ_ _ hm=>(nomatch hm),List.Pairwise.nil⟩ (by rw[A1G];exact A0A _);rw[A1G] at okc;rw[show({s with heap:=s.heap.push {cls:=.type "dict",data:=.dict #[]}}:Shared).heap.objs.size=s.heap.objs.size+1 from A1G ..]
 rw[List.forIn_nil];exact A00 (A04 (A04 (hQ _ ((Heap.Ns.new s.heap (.type "dict")).keeps (pushCells_keeps _ _)) (λb o e=>pushCells_keeps _ _ b o (A01 _ e)) okc)))
theorem Ss {σ':St}{H':Hp}{s':Shared}{h'':Heap}(I:Inv X pins σ H s)(hfp:∀ b∈fp,Pn X pins H b)(J:Inv (cxC X scope xs fr s.heap.objs.size fp s H) [] σ' H' s')(hs:Heap.SameBut s.heap.objs.size s'.heap h'') :
  Inv X pins σ H' {s' with heap:=h''}:=by
 have old:∀ b o,s.heap.get? b=some o->b≠s.heap.objs.size:=λb o e=>A0O (A07 e);have ub:Un (frs X.stack) fp H H' s.heap s'.heap:=J.base;refine I.call' (s':={s' with heap:=h''}) (ch:=fp) J.os ⟨λb o e n hb hx=>(hs.2 b (old b o e)).trans (ub.keep b o e n hb hx),λb o e n hb hx=>?_,ub.free,λb o e hx=>?_,ub.tups,ub.frzs,ub.tbls⟩ (λb o e=>?_) J.bare λb hb=>?_
 . obtain⟨sl,e1⟩:=ub.slot b o e n hb hx;exact⟨sl,(hs.2 b (old b o e)).trans e1⟩
 . obtain⟨o',e1⟩:=ub.there b o e hx;exact⟨o',(hs.2 b (old b o e)).trans e1⟩
 . have hf:H' s.heap.objs.size=none:=J.free;refine(J.hok b o e).stay (λc v hc q=>(hs.2 c ?_).trans q) (λ_ q=>q) λ_ _ q=>q;intro z;rcases hc with hc|hc
   . rw[<- hc,z,hf] at e;cases e
   rw[z,hf] at hc;cases hc
 obtain⟨f0,f1,f2,f3,f4,f5⟩:=hfp b hb;exact⟨f3,f1,f4,f5⟩
def PIf (X:Cx)(ifs:List Expr)(t:TT):Prop:=
 ∀(pins:List (Addr×Obj)) (s:Shared) (σ:St) (H:Hp) (Q:Bool->Hp->Prop) (E:Value->Shared->Prop),(∀ e s',X.xe e s'->E e s')->Inv X pins σ H s->t σ H Q ->
  wpAny (model X.prog X.w) X.A (forIn ifs true λc r=>if r=true then do let ok <- isTrue c X.env (eval c X.env);pure (ForInStep.yield ok) else pure (ForInStep.yield r)) (TP X pins σ Q) E s
def Uv:TT:=λ_ H Q=>Q true H
theorem Bn:PIf X [] Uv:=λ_ _ _ H _ _ _ I h=>wpAny_tests_nil ⟨H,I,h⟩
def a13 (k:Nat)(js:List Nat)(wi:TI)(g:TG)(tt:TT)(te:TE):TE:=fun σ H Q=>wi σ H λJ H1=>∀ p,H1 p=none ->
 ∃ W:Nat->Nat->Hp->Prop,(∃ m,W 0 m (upd H1 p (.lst [])))/\∀ i m H,W i m H ->
  (J.stop i H/\Q (.ref p) H)\/(J.go i H/\∃ N:Hp->Prop,(∀ H',N H'->∃ m',m'<m/\W (i+1) m' H') /\
   ∀ x H',J.yld i H x H'->g x (List.replicate k none++N4 σ js) H' fun σ2 H2=>tt σ2 H2 λb H3=>if b=true then te σ2 H3 λy H4=>∃ acc,H4 p=some (.lst acc)/\acc.length<sizeLine/\N (upd H4 p (.lst (acc++[y]))) else N H3)
theorem Tw {tg elt iter:Expr}{ifs:List Expr}{pos:Pos}{it acc:Value}{env:Env}{A:Around}{R:Result->Shared->Prop}{s:Shared}{P:Program}{w:World}(I:Nat->Shared->Prop)
  (turn:∀ n s,I n s->wpAny (model P w) A (pyNext it) (λr s₁=>match r with
   |none=>R (.ok .next) s₁
   |some v=>wpAny (model P w) A (letOwnedTupleGo tg it v) (λ_ s₁'=>wpAny (model P w) A (assign tg env v) (λ_ s₂=>
     wpAny (model P w) A (forIn ifs true λc r=>if r=true then do let ok <- isTrue c env (eval c env);pure (ForInStep.yield ok) else pure (ForInStep.yield r)) (λok s₃=>
      if ok=true then wpAny (model P w) A (eval elt env) (λx s₄=>wpAny (model P w) A (call (.builtin "list.append") [acc,x]) (λ_ s₅=>∃ m,m<n/\I m s₅) (λ_ _=>False) s₄) (λ_ _=>False) s₃
      else ∃ m,m<n/\I m s₃) (λ_ _=>False) s₂) (λ_ _=>False) s₁') (λ_ _=>False) s₁) (λ_ _=>False) s)
  (n:Nat) (h:I n s):codeAny (model P w) A (.compLoop (.ListComp elt [⟨tg,iter,ifs,0⟩] scope pos) 0 it acc env) R s:=by
 refine codeAny_loop rfl I (λn s hI=>?_) n h;show wpAny _ A ((compTurn (.ListComp elt [⟨tg,iter,ifs,0⟩] scope pos) 0 it acc env).onRaise (λx=>do noteFrame x env;theTreesLotGoes x)) _ _ s
 refine wpAny_noted ?_;rw [compTurn_list];refine A00 (A4Z (A00 (A1X (turn n s hI) (λr s₁ h₁=>?_) λ_ _ h'=>h'.elim)))
 cases r with
 |none=>exact A04 h₁
 |some v=>
   refine A00 (A1X h₁ (λ_ s₁' h₁'=>?_) λ_ _ h'=>h'.elim);refine A00 (A1X h₁' (λ_ s₂ h₂=>A00 (A1X h₂ (λok s₃ h₃=>?_) λ_ _ h'=>h'.elim)) λ_ _ h'=>h'.elim)
   cases ok with
   |false=>exact A04 ⟨rfl,h₃⟩
   |true=>exact A00 (A00 (A1X h₃ (λx s₄ h₄=>A00 (A1X h₄ (λ_ s₅ h₅=>A04 (A04 ⟨rfl,h₅⟩)) λ_ _ h'=>h'.elim)) λ_ _ h'=>h'.elim))
def Ub (n:Nat)(g:TG):Prop:=∀ x σ H Q,g x σ H Q->g x σ H fun σ' H'=>(∀ k,n<=k->σ'[k]? = σ[k]?)/\Q σ' H'
def Pw (n:Nat)(g:TGs):Prop:=∀ vs σ H Q,g vs σ H Q->g vs σ H fun σ' H'=>(∀ k,n<=k->σ'[k]? = σ[k]?)/\Q σ' H'
theorem By {n i:Nat}(h:i<n):Ub n (Hf i):=λx σ H Q q=>⟨λk hk=>A1R (by omega),q⟩
theorem af8 {n:Nat}:Pw n ah4:=λvs σ H Q ⟨e,q⟩=>⟨e,λ_ _=>rfl,q⟩
theorem U3 {n i:Nat}{u:TGs}(h:i<n)(hu:Pw n u):Pw n (O1 (Hf i) u):=λvs σ H Q ⟨v,r,e,q⟩=>by
 refine⟨v,r,e,?_⟩;have q':u r (σ.set i (some v)) H Q:=q;show u r (σ.set i (some v)) H _;have z:=hu _ _ _ _ q'
 have e2:(λ(σ':St) (H':Hp)=>(∀ k,n<=k->σ'[k]? = (σ.set i (some v))[k]?)/\Q σ' H')=fun σ' H'=>(∀ k,n<=k->σ'[k]? = σ[k]?)/\Q σ' H':=by
  funext σ' H'
  have e3:(∀ k,n<=k->σ'[k]? = (σ.set i (some v))[k]?) = ∀ k,n<=k->σ'[k]? = σ[k]?:=by
   refine propext ⟨λf k hk=>?_,λf k hk=>?_⟩
   . rw[f k hk,A1R (by omega)]
   rw[f k hk,A1R (by omega)]
  rw[e3]
 rw[e2] at z;exact z
theorem ah9 {K:W.Frag}{n m:Nat}{u:TGs}(hu:Pw n u):Ub n (a73 K m u):=λx σ H Q ⟨a,xs,e,hq,hl,q⟩=>⟨a,xs,e,hq,hl,hu _ _ _ _ q⟩
theorem P4 {tg elt iter:Expr}{ifs:List Expr}{pos:Pos}{g:TG}{tt:TT}{te:TE}(hc:X.calm=true)(S:CompS X scope xs fr)(hjs:js.map (λj=>X.N[j]?)=fr.map some)
  (hg:∀ C ex s₀ H₀,PG (cxC X scope xs fr C ex s₀ H₀) tg g) (hk:Ub xs.length g) (hi:∀ C ex s₀ H₀,PIf (cxC X scope xs fr C ex s₀ H₀) ifs tt) (he:∀ C ex s₀ H₀,PE (cxC X scope xs fr C ex s₀ H₀) elt te)
  {s2:Shared} {H1:Hp} {R:Value->Addr->Result->Shared->Prop} {Q:VK} {it:Addr} {tn:Nat->Heap->Prop} {J:It} (I:Inv X pins σ H1 s2) (T:V6 X.prog X.w X.K tg J fp it tn) (st:tn 0 s2.heap) (hfp:∀ b∈fp,Pn X pins H1 b)
  (hq:∀ p,H1 p=none->∃ W:Nat->Nat->Hp->Prop,(∃ m,W 0 m (upd H1 p (.lst [])))/\∀ i m H,W i m H ->
   (J.stop i H/\Q (.ref p) H)\/(J.go i H/\∃ N:Hp->Prop,(∀ H',N H'->∃ m',m'<m/\W (i+1) m' H') /\
    ∀ x H',J.yld i H x H'->g x (List.replicate xs.length none++N4 σ js) H' fun σ2 H2=>tt σ2 H2 λb H3=>if b=true then te σ2 H3 λy H4=>∃ acc,H4 p=some (.lst acc)/\acc.length<sizeLine/\N (upd H4 p (.lst (acc++[y]))) else N H3))
  (hR:∀(p C:Addr) (s':Shared) (H':Hp),(∃ m,s'.heap.Ns C m)->Pn X pins H' C->Inv X pins σ H' s'->Q (.ref p) H'->R (.ref p) C (.ok .next) s') :
  wpAny (model X.prog X.w) X.A (newList []) (λacc s₃=>wpAny (model X.prog X.w) X.A (newFunctionEnv scope X.env.globals (Hz X.env scope.names []) [] X.env.qual none .none (some X.env)) (λcenv s₄=>
   codeAny (model X.prog X.w) X.A (.compStart (.ListComp elt [⟨tg,iter,ifs,0⟩] scope pos) 0 (.ref it) acc {cenv with scope:=relabel scope X.env}) (R acc cenv.locals) s₄) X.xe s₃) X.xe s2:=by
 refine A20 ?_ (by show 0<=sizeLine;exact A2R _);have hn0:H1 s2.heap.objs.size=none:=I.hok.fresh (A0A _);have I3:Inv X pins σ (upd H1 s2.heap.objs.size (.lst [])) {s2 with heap:=s2.heap.push {cls:=.type "list",data:=.seq ([]:List Value).toArray}}:=I.laid (t':=s2.toks) (λb u e=>A01 _ e) (A0A _) ⟨A2R _,[],0,.nil,A0E _ rfl⟩
 obtain⟨W,⟨m0,w0⟩,turn⟩:=hq _ hn0;have hob:∀ b∈fp,∃ o,s2.heap.get? b=some o:=λb hb=>let ⟨o,e,_⟩:=T.obj _ _ st b hb;⟨o,e⟩
 have hfp3:∀ b∈fp,Pn X pins (upd H1 s2.heap.objs.size (.lst [])) b:=λb hb=>by obtain⟨f0,f⟩:=hfp b hb;obtain⟨o,e⟩:=hob b hb;exact⟨by rw[Al (A0O (A07 e))];exact f0,f⟩
 have hob3:∀ b∈fp,∃ o,(s2.heap.push {cls:=.type "list",data:=.seq ([]:List Value).toArray}).get? b=some o:=λb hb=>let ⟨o,e⟩:=hob b hb;⟨o,A01 _ e⟩;have st3:tn 0 (s2.heap.push {cls:=.type "list",data:=.seq ([]:List Value).toArray}):=T.keep _ _ _ st λb _ o e=>A01 _ e;generalize hs3:({s2 with heap:=s2.heap.push {cls:=.type "list",data:=.seq ([]:List Value).toArray}}:Shared)=s3 at I3 ⊢;have st3':tn 0 s3.heap:=by rw[<- hs3];exact st3
 have hob3':∀ b∈fp,∃ o,s3.heap.get? b=some o:=by rw[<- hs3];exact hob3
 generalize hH3:upd H1 s2.heap.objs.size (.lst [])=H3 at I3 hfp3 w0;generalize hp0:s2.heap.objs.size=p0 at turn ⊢;refine Tl λh₁ hns₁ hkp₁ hco₁=>?_;have I4:=X4 (t':=s3.toks) S hjs I3 hfp3 hob3' hns₁ hkp₁ hco₁;have st4:tn 0 h₁:=T.keep _ _ _ st3' λb hb o e=>hkp₁ b o e
 have loop:∀ s₄:Shared,Inv (cxC X scope xs fr s3.heap.objs.size fp s3 H3) [] (List.replicate xs.length none++N4 σ js) H3 s₄->tn 0 s₄.heap ->
   codeAny (model X.prog X.w) X.A (.compLoop (.ListComp elt [⟨tg,iter,ifs,0⟩] scope pos) 0 (.ref it) (.ref p0) (compEnvC scope (cellsFrom (s3.heap.objs.size+1) scope.names (Hz X.env scope.names [])) s3.heap.objs.size X.env)) (R (.ref p0) s3.heap.objs.size) s₄:=by
  intro s₄ I4 st4
  have stat:∀ {H':Hp},(∀ b∈fp,H' b=none)->∀ b∈fp,Pn (cxC X scope xs fr s3.heap.objs.size fp s3 H3) [] H' b:=fun {H'} hn b hb=>by obtain⟨f0,f1,f2,f3,f4,f5⟩:=hfp3 b hb;obtain⟨o,e⟩:=hob3' b hb;refine⟨hn b hb,A0O (A07 e),I4.ok.exfs b hb,.inl hb,λx c h=>(I4.ok.exf b hb).2 x c h,λp hp=>absurd (show p∈([]:List (Addr×Obj)) from hp) ∅⟩
  refine Tw (λn s'=>∃ i H',Inv (cxC X scope xs fr s3.heap.objs.size fp s3 H3) [] (List.replicate xs.length none++N4 σ js) H' s'/\tn i s'.heap/\(∀ b∈fp,H' b=none)/\W i n H') ?_ m0 ⟨0,H3,I4,st4,λb hb=>(hfp3 b hb).1,w0⟩;rintro n s5 ⟨i,H5,I5,st5,fr5,w5⟩;rcases turn i n H5 w5 with ⟨stop,qn⟩|⟨go,N,hN,step⟩
  . refine thn (T.done (cxC X scope xs fr s3.heap.objs.size fp s3 H3) rfl rfl rfl hc i [] s5 _ H5 (λ_ _=>False) I5 (stat fr5) st5 stop) λr s6 ⟨hr,I6⟩=>?_;subst hr;obtain⟨m6,n6,_⟩:=id I6.loc;exact hR p0 s3.heap.objs.size s6 H5 ⟨m6,n6⟩ (I3.fpOk (A0A _) I6.free) (Ss I3 hfp3 I6 (Heap.SameBut.refl ..)) qn
  refine thn (T.item (cxC X scope xs fr s3.heap.objs.size fp s3 H3) rfl rfl rfl hc i [] s5 _ H5 (λ_ _=>False) I5 (stat fr5) st5 go) λr s6 ⟨u,hr,h6⟩=>?_;subst hr;refine thn h6 λ_ s7 ⟨x,H7,I7,r7,y7,st7,fr7⟩=>?_;have I7':=I7.pinned (stat fr7) (T.obj _ _ st7);refine thn (hg _ _ _ _ _ s7 _ H7 x u _ I7' r7 (hk _ _ _ _ (step x H7 y7))) λ_ s8 ⟨σ8,H8,I8,kp8,q8⟩=>?_
  have again:∀ {s9:Shared} {H9:Hp},Inv (cxC X scope xs fr s3.heap.objs.size fp s3 H3) ([]++O5 fp s7.heap) σ8 H9 s9->N H9 ->
    ∃ m,m<n/\∃ i H',Inv (cxC X scope xs fr s3.heap.objs.size fp s3 H3) [] (List.replicate xs.length none++N4 σ js) H' s9/\tn i s9.heap/\(∀ b∈fp,H' b=none)/\W i m H':=fun {s9 H9} I9 n9=>by
   obtain⟨m',hm,w9⟩:=hN H9 n9;refine⟨m',hm,i+1,H9,I9.unpinned.weak ?_ ?_,T.keep _ _ _ st7 λb hb o e=>(I9.pin (b,o) (A0K _ (A0K _ (Ev hb e)))).1,λb hb=>?_,w9⟩
   . rw[I9.len,I5.len]
   . intro k v hkv
     by_cases hx:k<xs.length
     . rw[A1K (by rw[A1B];exact hx),A34,A0Q hx] at hkv
       cases hkv
     rw[kp8 k (Nat.le_of_not_lt hx)];exact hkv
   obtain ⟨o,e,d⟩:=T.obj _ _ st7 b hb;exact(I9.pin (b,o) (A0K _ (A0K _ (Ev hb e)))).2.1
  refine A1X (hi _ _ _ _ _ s8 σ8 H8 _ (λ_ _=>False) (λ_ _ z=>z) I8 q8) (λok s9 ⟨H9,I9,q9⟩=>?_) λ_ _ z=>z
  cases ok with
  |false=>rw[A0L A0B];rw[A0L A0B] at q9;exact again I9 q9
  |true=>rw[A0Q rfl];rw[A0Q rfl] at q9;refine thn (he _ _ _ _ _ s9 σ8 H9 _ I9 q9) λuy s10 ⟨y,H10,I10,r10,acc,hacc,hz,n10⟩=>?_;refine thn (G8 _ s10 σ8 H10 (.ref p0) [y] (.ref p0) [uy] (λ_ H11=>N H11) I10 rfl (.cons r10 .nil) ⟨p0,acc,y,rfl,rfl,hacc,hz,n10⟩) λ_ s11 ⟨_,H11,I11,_,n11⟩=>?_;exact again I11 n11
 exact codeAny_compStart_list (loop _ I4 st4) (T.self _ _ _ _ _ st4 (loop _ I4 st4))
theorem Inv.letgo {C:Addr}{h'':Heap}(I:Inv X pins σ H s)(f:Pn X pins H C)(hs:Heap.SameBut C s.heap h''):Inv X pins σ H {s with heap:=h''}:=by obtain⟨f0,f1,f2,f3,f4,f5⟩:=f;exact I.turned (t':=s.toks) (λb o hb e=>(hs.2 b hb).trans e) f0 f1 f3 f4 f5
theorem Ca {tg elt iter:Expr}{ifs:List Expr}{pos:Pos}{wi:TI}{g:TG}{tt:TT}{te:TE}(xs fr:List Str)(js:List Nat)(hc:X.calm=true)(hS:Px X.env.scope scope xs fr=true)(hjs:js.map (λj=>X.N[j]?)=fr.map some)(hw:PI X tg iter wi)
  (hg:∀ C ex s₀ H₀,PG (cxC X scope xs fr C ex s₀ H₀) tg g) (hk:Ub xs.length g) (hi:∀ C ex s₀ H₀,PIf (cxC X scope xs fr C ex s₀ H₀) ifs tt) (he:∀ C ex s₀ H₀,PE (cxC X scope xs fr C ex s₀ H₀) elt te)
  (hs:∀ x,foldedSetIterable iter X.env x=pure x:=by intro _;ac_nf) :
  PE X (.ListComp elt [⟨tg,iter,ifs,0⟩] scope pos) (a13 xs.length js wi g tt te):=by
 intro pins s σ H Q I h;have S:=P0 hS;rw[eval_ListComp];refine wpAny_comprehension_free (use:=none) rfl hs (Ko (S.cells I.ok)) S.kind S.names ?_;refine thn (hw pins s σ H _ I h) λv s1 h1=>thn h1 λitv s2 h2=>?_;obtain⟨it,fp,tn,J,H2,e,I2,T,st2,f2,q2⟩:=h2;subst e;refine P4 (Q:=Q) (R:=λacc C=>compPost (model X.prog X.w) X.A X.xe none (EP X pins σ Q) acc C) hc S hjs hg hk hi he I2 T st2 f2 q2 ?_;intro p C s' H' ⟨m,hn⟩ fC hI q;exact⟨m,hn,λh'' hs''=>⟨.ref p,H',hI.letgo fC hs'',rfl,q⟩⟩
theorem Hj {tg elt iter:Expr}{ifs:List Expr}{pos spos py:Pos}{wi:TI}{g:TG}{tt:TT}{te:TE}{i:Nat}{y:Str}(xs fr:List Str)(js:List Nat)(hc:X.calm=true)(hS:Px X.env.scope scope xs fr=true)(hjs:js.map (λj=>X.N[j]?)=fr.map some)
  (hN:X.N.Nodup) (hi':X.N[i]? = some y) (hy:X.env.scope.names.lookup y=some .local) (hw:PI X tg iter wi)
  (hg:∀ C ex s₀ H₀,PG (cxC X scope xs fr C ex s₀ H₀) tg g) (hk:Ub xs.length g) (hi:∀ C ex s₀ H₀,PIf (cxC X scope xs fr C ex s₀ H₀) ifs tt) (he:∀ C ex s₀ H₀,PE (cxC X scope xs fr C ex s₀ H₀) elt te)
  (hsw:swapsWith (.ListComp elt [⟨tg,iter,ifs,0⟩] scope pos) (some (.Name y py)) spos.line X.env=pure true:=by ac_nf)
  (hs:∀ x,foldedSetIterable iter X.env x=pure x:=by intro _;ac_nf) :
  PS X (.Assign [.Name y py] (.ListComp elt [⟨tg,iter,ifs,0⟩] scope pos) spos) (a71 (a13 xs.length js wi g tt te) (Hf i)):=by
 intro pins s σ H D I h;have S:=P0 hS;rw[exec_Assign_Name_used _ _ _ _ hsw];refine A00 (A4Z (A00 ?_));show wpAny _ X.A (do let _ <- comprehension (.ListComp elt [⟨tg,iter,ifs,0⟩] scope pos) scope X.env _ (newList []) false (eval iter X.env) (some (assign (.Name y py) X.env))) _ _ s
 refine A00 (A1X (wpAny_comprehension_free (use:=some (assign (.Name y py) X.env)) (Q:=λ_ s'=>SP X pins D .next s') rfl hs (Ko (S.cells I.ok)) S.kind S.names ?_) (λ_ s' hq=>A04 (A04 hq)) λ_ _ e=>e);refine thn (hw pins s σ H _ I h) λv s1 h1=>thn h1 λitv s2 h2=>?_;obtain⟨it,fp,tn,J,H2,e,I2,T,st2,f2,q2⟩:=h2;subst e;refine P4 (Q:=λx H1=>Hf i x σ H1 D.nx) (R:=λacc C=>compPost (model X.prog X.w) X.A X.xe (some (assign (.Name y py) X.env)) (λ_ s'=>SP X pins D .next s') acc C) hc S hjs hg hk hi he I2 T st2 f2 q2 ?_;intro p C s' H' ⟨m,hn⟩ fC I' q;show wpAny _ X.A (assign (.Name y py) X.env (.ref p)) _ _ s';refine wpAny_assign_Name (Nb I' hN hi' (.inl hy) (show RelV (.ref p) (.ref p) from rfl) (λs'' I'' ⟨a,hs1,ha⟩=>?_) (.inr hy))
 have hne:C≠a:=by
  rcases ha with ha|ha
  . rw[ha];exact fC.2.1
  exact(fC.2.2.2.2.1 y a ha).symm
 exact⟨m,hn.sameBut hs1 hne,λh'' hs''=>⟨_,H',I''.letgo fC hs'',q⟩⟩
end
def Its (x:Str):It:=⟨λi _=>i<x.cps.size,λi H v H'=>H'=H/\∃ c,x.cps[i]? = some c/\v = .str ⟨#[c]⟩,λi _=>x.cps.size<=i⟩
section
variable {X:Cx}{tg:Expr}
theorem Sy {P:Program}{w:World}{K:PySem.W.Frag}{tg:Expr}{it:Addr}{n:Nat}{PV:Nat->Value->Prop}{val:Nat->V->Prop}{St:Nat->Heap->Prop}(W:∀ A:Around,A.handled=none->Walks P w A it [it] [it] n PV St)
  (hself:∀(A:Around) (i:Nat) (s:Shared) (Q:Value->Shared->Prop) (E:Value->Shared->Prop),St i s.heap->Q (.ref it) s->wpAny (model P w) A (pyIter (.ref it)) Q E s)
  (hv:∀ i u,PV i u->∃ v,RelV v u/\val i v) (hto:∀ i h,St i h->∃ o T vs,h.get? it=some o/\o.cls = .type T/\o.data = .fields vs/\["enumerate","zip","dict_itemiterator","dict_reverseitemiterator","odict_iterator","itertools.zip_longest","itertools.pairwise"].contains T=false) :
  V6 P w K tg ⟨λi _=>i<n,λi H v H'=>H'=H/\val i v,λi _=>n<=i⟩ [it] it (λi h=>St i h/\i<=n) where
 mem:=by simp
 obj:=λi h st b hb=>by
  have e:b=it:=by simpa using hb
  subst e;obtain⟨o,T,vs,e1,e2,e3,e4⟩:=hto i h st.1;exact⟨o,e1,λv z=>by rw[e3] at z;cases z⟩
 keep:=λi h h' st k=>⟨(W {handled:=none} rfl).frame i h h' st.1 k,st.2⟩
 item:=by
  intro X hP hw hK hc i pins s σ H E I hf st hg;subst hP hw hK;obtain⟨f0,f1,f2,f3,f4,f5⟩:=hf it ∅;refine(W X.A (I.ok.hd hc)).item i s _ _ hg st.1 λu h' tk hp st' kk=>?_;obtain⟨v,rv,vv⟩:=hv i u hp;have I1:Inv X pins σ H {s with heap:=h',toks:=tk}:=I.turned (λb o hb e=>kk b o (by simpa using hb) e) f0 f1 f3 f4 f5
  obtain⟨o,T,vs,e1,e2,e3,e4⟩:=hto _ _ st';exact⟨u,rfl,Tk (s:={s with heap:=h',toks:=tk}) e1 e2 e3 e4 ⟨v,H,I1,rv,⟨rfl,vv⟩,⟨st',hg⟩,λb hb=>(hf b hb).1⟩⟩
 done:=by intro X hP hw hK hc i pins s σ H E I hf st hg;subst hP hw hK;obtain⟨f0,f1,f2,f3,f4,f5⟩:=hf it ∅;have e:i=n:=A3N st.2 hg;subst e;exact(W X.A (I.ok.hd hc)).done s _ _ st.1 λh' tk kk=>⟨rfl,I.turned (λb o hb e=>kk b o (by simpa using hb) e) f0 f1 f3 f4 f5⟩
 self:=λA i s Q E st h=>hself A i s Q E st.1 h
theorem ae0 {pins:List (Addr×Obj)}{σ:St}{H1:Hp}{s1:Shared}{R:It->Hp->Prop}{E:Value->Shared->Prop}{z:Str}{v:Value}(I1:Inv X pins σ H1 s1)(r1:RelV (.str z) v)(q:R (Its z) H1):wpAny (model X.prog X.w) X.A (pyIter v) (PIE X pins σ tg R) E s1:=by
 obtain⟨t,rfl⟩:=r1;have sv:∀ i u,SignAt z i u->∃ v,RelV v u/\∃ c,z.cps[i]? = some c/\v = .str ⟨#[c]⟩:=λi u ⟨c,tu,hc,hu⟩=>⟨.str ⟨#[c]⟩,⟨tu,hu⟩,c,hc,rfl⟩
 have fin:∀(o:Obj) (St:Nat->Heap->Prop) (n:Nat),St 0 (s1.heap.push o)->V6 X.prog X.w X.K tg (Its z) [s1.heap.objs.size] s1.heap.objs.size (λi h=>St i h/\i<=z.cps.size)->PIE X pins σ tg R (.ref s1.heap.objs.size) {s1 with heap:=s1.heap.push o}:=λo St n h0 T=>by
  refine⟨s1.heap.objs.size,[s1.heap.objs.size],_,_,H1,rfl,I1.kept (t':=s1.toks) λb ob e=>A01 _ e,T,⟨h0,A2R _⟩,λb hb=>?_,q⟩;have e:b=s1.heap.objs.size:=by simpa using hb
  subst e;exact I1.fpOk (A0A _) (I1.hok.fresh (A0A _))
 cases ha:z.cps.all (· < 128)
 . exact wpAny_pyIter_wide ha (fin _ _ 0 ⟨_,A0E _ rfl,rfl,rfl⟩ (Sy (λA hA=>Walks.strWide hA _ z t) (λ_ _ _ _ _ st hq=>wpAny_pyIter_striter_wide st hq) sv λi h ⟨o,ho,hc,hd⟩=>⟨o,_,_,ho,hc,hd,by decide⟩))
 exact wpAny_pyIter_ascii ha (fin _ _ 0 ⟨_,A0E _ rfl,rfl,rfl⟩ (Sy (λA hA=>Walks.strAscii hA _ z t) (λ_ _ _ _ _ st hq=>wpAny_pyIter_striter_ascii st hq) sv λi h ⟨o,ho,hc,hd⟩=>⟨o,_,_,ho,hc,hd,by decide⟩))
end
section
variable {X:Cx}
def aq3:V->Option Int->Option Int->Hp->VK->Prop:=λx lo hi H Q=>∃ z,x = .str z/\z.length<=sizeLine/\Q (.str (Txt.slice z lo hi)) H
theorem sl_str:SlR X aq3:=by
 intro pins s σ H x v vl vu lo hi sl Q I rx hs pl pu h;obtain⟨z,rfl,hz,q⟩:=h;obtain⟨t,rfl⟩:=rx;have fin:∀ t' k,EP X pins σ Q (.str (Txt.slice z lo hi) t') {s with toks:=k}:=λt' k=>⟨.str _,H,I.tok _,⟨_,rfl⟩,q⟩
 have sz:=A0P (Txt.slice_le z lo hi) hz;refine⟨"str",_,F.slot_str_getitem.lookup,typeIs_str _ _ _,?_⟩
 cases pl with
 |none=>
   cases pu with
   |none=>exact A35 (l:=none) (u:=none) (st:=none) hs rfl (A4I ⟨sz,fin⟩)
   |int j uj=>exact A35 (l:=none) (u:=some (j,uj)) (st:=none) hs rfl (A4I ⟨sz,fin⟩)
 |int i ui=>
   cases pu with
   |none=>exact A35 (l:=some (i,ui)) (u:=none) (st:=none) hs rfl (A4I ⟨sz,fin⟩)
   |int j uj=>exact A35 (l:=some (i,ui)) (u:=some (j,uj)) (st:=none) hs rfl (A4I ⟨sz,fin⟩)
def ao3:V->List V->Hp->VK->Prop:=λx vs H Q=>∃ z y,x = .str z/\vs=[.str y]/\Q (.int (Txt.find z y)) H
theorem call_isinst:CallR X (.builtin "isinstance") (λxs H Q=>∃ x c t b,xs=[x,.ty c]/\TyOf X.K H x t/\W.kitOne X.K t (.type c)=some b/\Q (.bl b) H):=by
 intro pins s σ H xs us Q I r h;obtain⟨x,c,t,b,rfl,ty,e,q⟩:=h;obtain⟨u,w',rfl,r1,r2⟩:=Rc r
 cases r2;exact O4 I r1 ty e λtk=>⟨.bl _,H,I.tok _,rfl,q⟩
theorem call_isinstR:CallR X (.builtin "isinstance") (λxs H Q=>∃ x c t b,xs=[x,.ref c]/\TyOf X.K H x t/\W.kitOne X.K t (.ref c)=some b/\Q (.bl b) H):=by
 intro pins s σ H xs us Q I r h;obtain⟨x,c,t,b,rfl,ty,e,q⟩:=h;obtain⟨u,w',rfl,r1,r2⟩:=Rc r
 cases r2;exact O4 I r1 ty e λtk=>⟨.bl _,H,I.tok _,rfl,q⟩
theorem Nh:CallR X (.builtin "isinstance") (λxs H Q=>∃ a ys c b,xs=[V.ref a,.ty c]/\((SqT X.K H a ys/\W.kitOne X.K (.type "tuple") (.type c)=some b)\/(SqL X.K H a ys/\W.kitOne X.K (.type "list") (.type c)=some b))/\Q (.bl b) H):=by
 intro pins s σ H xs us Q I r h;obtain⟨a,ys,c,b,rfl,ty,q⟩:=h;obtain⟨u,w',rfl,r1,r2⟩:=Rc r
 cases r2
 cases r1;rcases ty with ⟨ty,e⟩|⟨ty,e⟩
 . obtain⟨its,_,p,_⟩:=I.tuple ty;obtain⟨o,h1,h2,_⟩:=p;exact A18 W.kitx_tuple I.kIn ⟨o,h1,h2⟩ e (λz=>nomatch z) λtk=>⟨.bl _,H,I.tok _,rfl,q⟩
 obtain⟨its,_,p,_⟩:=I.list ty;obtain⟨o,h1,h2,_⟩:=p.isList;exact A18 W.kitx_list I.kIn ⟨o,h1,h2⟩ e (λz=>nomatch z) λtk=>⟨.bl _,H,I.tok _,rfl,q⟩
theorem Qa {bs:List Bool}{its:List Value}(r:Vals (bs.map V.bl) its)(i:Nat)(v:Value)(h:its[i]? = some v):∃ b,bs[i]? = some b/\v = .bool b:=by
 have hl:=r.length;have hi:i<its.length:=(A02.mp h).1;have hb:i<bs.length:=by rw[A05] at hl;omega
 obtain⟨u,hu,ru⟩:=r.get (i:=i) (x:=.bl bs[i]) (by rw[A0G,A03 hb];rfl);rw[h] at hu
 cases hu;exact⟨bs[i],A03 hb,ru⟩
theorem Rz (bs:List Bool):(List.range bs.length).all (λi=>(bs[i]?).getD false)=bs.all id:=by
 rw[A1J,A0W,A0W];constructor
 . intro h b hb;obtain⟨i,hi,e⟩:=List.mem_iff_getElem.mp hb;have:=h i (A2Y.mpr hi);rw[A03 hi] at this;rw[<- e];exact this
 intro h i hi;rw[A03 (A2Y.mp hi)];exact h _ (List.getElem_mem _)
theorem Sx (bs:List Bool):(List.range bs.length).any (λi=>(bs[i]?).getD false)=bs.any id:=by
 rw[A1J,A1D,A1D];constructor
 . rintro⟨i,hi,h⟩;rw[A03 (A2Y.mp hi)] at h;exact⟨_,List.getElem_mem _,h⟩
 rintro⟨b,hb,h⟩;obtain⟨i,hi,e⟩:=List.mem_iff_getElem.mp hb;refine⟨i,A2Y.mpr hi,?_⟩;rw[A03 hi,e];exact h
theorem Wz (hc:X.calm=true):CallR X (.builtin "all") (λxs H Q=>∃(a:Addr) (bs:List Bool),xs=[.ref a]/\SqL X.K H a (bs.map V.bl)/\Q (.bl (bs.all id)) H):=by
 intro pins s σ H xs us Q I r h;obtain⟨a,bs,rfl,hl,q⟩:=h;obtain⟨u,rfl,ru⟩:=Oh r
 cases ru;obtain⟨its,rv,pl,hz⟩:=I.list hl;have hlen:=rv.length;have hne:a≠s.heap.objs.size:=by obtain⟨o,n,ho,_⟩:=pl;exact A0O (A07 ho)
 refine call_all_walk (A3D pl.isList ?_);refine⟨_,_,_,_,_,_,λi=>(bs[i]?).getD false,rfl,Walks.list (A:=X.A.in1) (I.ok.hd hc) _ a hne its.toArray,⟨⟨_,A0E _ rfl,rfl,rfl⟩,pl.isList.at λo e=>A01 _ e⟩,λi v s' Q' E' hp hq=>?_,λh' tk hk=>?_⟩
 . obtain⟨b,hb,rfl⟩:=Qa rv i v (by simpa using hp);dsimp only at hq;rw[hb] at hq;exact A1N hq
 refine⟨.bl _,H,I.kept (t':=tk) λb ob e=>hk b ob (λhm=>absurd (Heap.lt_size e) (by rw[show b=s.heap.objs.size by simpa using hm];exact Nat.lt_irrefl _)) (Heap.get?_push_of_some _ e),?_,q⟩;have e1:its.toArray.size=bs.length:=by rw[A0N,<- hlen,A05]
 rw[e1,Rz];rfl
theorem W8 (hc:X.calm=true):CallR X (.builtin "any") (λxs H Q=>∃(a:Addr) (bs:List Bool),xs=[.ref a]/\SqL X.K H a (bs.map V.bl)/\Q (.bl (bs.any id)) H):=by
 intro pins s σ H xs us Q I r h;obtain⟨a,bs,rfl,hl,q⟩:=h;obtain⟨u,rfl,ru⟩:=Oh r
 cases ru;obtain⟨its,rv,pl,hz⟩:=I.list hl;have hlen:=rv.length;have hne:a≠s.heap.objs.size:=by obtain⟨o,n,ho,_⟩:=pl;exact A0O (A07 ho)
 refine call_any_walk (A3D pl.isList ?_);refine⟨_,_,_,_,_,_,λi=>(bs[i]?).getD false,rfl,Walks.list (A:=X.A.in1) (I.ok.hd hc) _ a hne its.toArray,⟨⟨_,A0E _ rfl,rfl,rfl⟩,pl.isList.at λo e=>A01 _ e⟩,λi v s' Q' E' hp hq=>?_,λh' tk hk=>?_⟩
 . obtain⟨b,hb,rfl⟩:=Qa rv i v (by simpa using hp);dsimp only at hq;rw[hb] at hq;exact A1N hq
 refine⟨.bl _,H,I.kept (t':=tk) λb ob e=>hk b ob (λhm=>absurd (Heap.lt_size e) (by rw[show b=s.heap.objs.size by simpa using hm];exact Nat.lt_irrefl _)) (Heap.get?_push_of_some _ e),?_,q⟩;have e1:its.toArray.size=bs.length:=by rw[A0N,<- hlen,A05]
 rw[e1,Sx];rfl
end
section
variable {X:Cx}{x:Str}{pos:Pos}
theorem Hl {v:V}(hg:Gl X x)(hm:∃ u,X.mg x=some u/\RelV v u)(hd:(x==("__debug__":Str))=false:=by decide):PE X (.Name x pos) (tC v):=by obtain⟨u,h1,h2⟩:=hm;exact a30 hg h1 h2 hd
end
section
variable {X:Cx}{K:W.Frag}
def ac5 (K:W.Frag):R2:=λx y H Q=>∃ a b ys,x = .ref a/\y = .ref b/\SqT K H a []/\SqT K H b ys/\Q (.ref b) H
theorem a49:OpR X (binaryOp .Add) (ac5 X.K):=by
 intro pins s σ H x y v u Q I rx ry h;obtain⟨a,b,ys,rfl,rfl,ha,hb,q⟩:=h
 cases rx
 cases ry;obtain⟨its,r1,p1,_⟩:=I.tuple ha;obtain⟨its2,r2,p2,_⟩:=I.tuple hb
 cases r1;obtain⟨⟨cls,dd,data,sl⟩,ho,hc,n,hd⟩:=id p1;obtain⟨⟨cls2,dd2,data2,sl2⟩,ho2,hc2,n2,hd2⟩:=id p2;simp only at hc hd hc2 hd2;subst hc hd hc2 hd2;exact concat_meets ⟨_,ho,rfl⟩ ⟨_,ho2,rfl⟩ noFill_tuple_add seq_tuple_add A47 A43 (A3T _ _) (tuple_addW0 a b _ _ n n2 dd dd2 sl sl2 ∅) ⟨ho,ho2,⟨.ref b,H,I,rfl,q⟩⟩
def ar5 (K:W.Frag):V->Option Int->Option Int->Hp->VK->Prop:=λx lo hi H Q=>∃ a xs,x = .ref a/\SqT K H a xs/\(HT.sIx xs.length 0 lo=0/\HT.sIx xs.length xs.length hi=xs.length)/\Q (.ref a) H
theorem W6:SlR X (ar5 X.K):=by
 intro pins s σ H x v vl vu lo hi sl Q I rx hs pl pu h;obtain⟨a,xs,rfl,hx,hw,q⟩:=h
 cases rx;obtain⟨its,r,ht,hz⟩:=I.tuple hx;have hlen:its.toArray.size=xs.length:=by rw[A0N];exact r.length.symm
 refine⟨"tuple",_,PyProof.Rows.slot_tuple_getitem.lookup,ht.typeIs,?_⟩;obtain⟨os,hos,hcs,hds⟩:=id hs;have hTs:s.TypeIs (.ref sl) "slice":=⟨os,hos,hcs⟩;unfold getItem
 try with_reducible refine A1P ?_
 first | refine A00 (A04 ?_) | skip
 refine A00 (wpAny_sequenceKey ht.typeIs nofun ?_);refine A00 (A2H (name:=Str.ofString "__getitem__") ht.typeIs A29 (A2Z A29 ht.typeIs entry_tuple_getitem ?_ (args_tuple_getitem _ _)));refine A00 (m:=Builtin.Tuple.tupleItemsOf (.ref a)) (tupleItemsOf_ ht ?_);refine A00 (A4C hTs ?_);rw[A0Q nofun];refine A00 (HT.sliceApplied_gen hs pl pu ?_)
 have yes:(((HT.sIx its.toArray.size 0 lo:Nat):Int)==0&&(1:Int)==1&&(HT.sIx its.toArray.size its.toArray.size hi-HT.sIx its.toArray.size 0 lo)==its.toArray.size)=true:=by rw[hlen,hw.1,hw.2];simp
 show wpAny _ _ (if(((HT.sIx its.toArray.size 0 lo:Nat):Int)==0&&(1:Int)==1&&(HT.sIx its.toArray.size its.toArray.size hi-HT.sIx its.toArray.size 0 lo)==its.toArray.size)=true then _ else _) _ _ s
 rw[A0Q yes];have fin:∀ s',s'=s->EP X pins σ Q (.ref a) s':=λs' e=>by subst e;exact⟨.ref a,H,I,rfl,q⟩
 unfold Builtin.Tuple.tupleIsExact;obtain⟨hp,g,d,tk,os⟩:=s;have hT:=ht.typeIs
 repeat (any_goals (first | assumption | wp_step))
 exact⟨_,rfl,A04 (fin _ rfl)⟩
end
theorem Inv.freeze {X:Cx}{pins:List (Addr×Obj)}{σ:St}{H:Hp}{s:Shared}{d:Addr}{kvs:List (Key×V)}{o:Obj}(I:Inv X pins σ H s)(hd:H d=some (.dK kvs))(ho:s.heap.get? d=some o):Inv X pins σ (upd H d (.frz o (.dK kvs))) s:=by
 have nn:∀ b,H b=none->upd H d (.frz o (.dK kvs)) b=none:=λb h=>by rw[Al (Ne.symm (ne_of_none hd h))];exact h
 have other:∀ b u,H b=some u->u ≠ .dK kvs->upd H d (.frz o (.dK kvs)) b=some u:=λb u h q=>by rw[Al (ne_of h hd q)];exact h
 refine⟨I.ok,I.os,I.bare,⟨I.base.keep,I.base.slot,λb ob q n hx=>nn b (I.base.free b ob q n hx),I.base.there,λb xs q=>other b _ (I.base.tups b xs q) (by intro z;cases z),λb ob u q=>other b _ (I.base.frzs b ob u q) (by intro z;cases z),λb ps q=>?_⟩,I.loc,I.cell,nn _ I.free,λx c q=>nn _ (I.freeC x c q),λp hp=>?_,λb u q=>?_,I.len⟩
 . obtain⟨more,h⟩:=I.base.tbls b ps q;exact⟨more,other b _ h (by intro z;cases z)⟩
 . obtain⟨a1,a2,a3⟩:=I.pin p hp;exact⟨a1,nn _ a2,a3⟩
 by_cases e:b=d
 . subst e;rw[Aa] at q
   cases q;exact⟨ho,(I.hok b _ hd).stay (λc v hc z=>z) (λc z=>other c _ z (by intro w;cases w)) λc xs z=>other c _ z (by intro w;cases w)⟩
 rw[Al e] at q;exact(I.hok b u q).stay (λc v hc z=>z) (λc z=>other c _ z (by intro w;cases w)) λc xs z=>other c _ z (by intro w;cases w)
def Itd (a:Addr)(o:Obj)(kvs:List (Key×V)):It:=
 ⟨λi H=>H a=some (.frz o (.dK kvs))/\i<kvs.length,λi H x H'=>H'=H/\∃ kv,kvs[i]? = some kv/\x=kV kv.1,λi H=>H a=some (.frz o (.dK kvs))/\kvs.length<=i⟩
theorem Zb {k:Key}{u:Value}(h:Li k u=true):RelV (kV k) u:=by
 rcases B4 h with ⟨i,t,rfl,rfl⟩|⟨x,t,rfl,rfl⟩
 . exact⟨t,rfl⟩
 exact⟨t,rfl⟩
theorem S7 {X:Cx}{pins:List (Addr×Obj)}{σ:St}{H:Hp}{s:Shared}{a:Addr}{kvs:List (Key×V)}{o:Obj}{es:Array DictEntry}{ep:Nat}(I:Inv X pins σ H s)(h:H a=some (.frz o (.dK kvs)))(ho:o.data = .dict es ep):∃ vs,KV kvs vs/\s.heap.DictAt (Ak X.prog X.w) a vs ep:=by
 obtain⟨h1,_,_,vs,r,o',es',ep',h2,c,hd,rest⟩:=I.hok a _ h;rw[h1] at h2
 cases h2;rw[ho] at hd
 cases hd;exact⟨vs,r,o,es,h1,c,ho,rest⟩
theorem KV.get:∀ {kvs:List (Key×V)} {vs:List (Key×Value)} {i:Nat} {kv:Key×V},KV kvs vs->kvs[i]? = some kv->∃ u,vs[i]? = some (kv.1,u)/\RelV kv.2 u
 |_,_,_,_,.nil,e=>by simp at e
 |_,_,0,kv,.cons r _,e=>by simp at e;subst e;exact⟨_,congrArg some (Prod.ext r.1.symm rfl),r.2⟩
 |_,_,i+1,kv,.cons _ t,e=>by obtain⟨u,h1,h2⟩:=KV.get (i:=i) t (by simpa using e);exact⟨u,by simpa using h1,h2⟩
theorem Np {P:Program}{w:World}{K:W.Frag}{tg:Expr}(a it:Addr)(o:Obj)(kvs:List (Key×V))(es:Array DictEntry)(ep:Nat)(hd:o.data = .dict es ep):V6 P w K tg (Itd a o kvs) [it] it (λi h=>h.IsKeyIter it a i kvs.length ep) where
 mem:=by simp
 obj:=λi h st b hb=>by
  have e:b=it:=by simpa using hb
  subst e;obtain⟨o,e,c,d⟩:=st;exact⟨o,e,λv z=>by rw[d] at z;cases z⟩
 keep:=λi h h' st k=>st.at λo e=>k it ∅ o e
 item:=by
  intro X hP hw hK hc i pins s σ H E I hf st hg;subst hP hw hK;obtain⟨hH,hi⟩:=hg;obtain⟨vs,rv,hat⟩:=S7 I hH hd;have hl:kvs.length=vs.length:=A32 rv;obtain⟨kv,hkv⟩:∃ kv,kvs[i]? = some kv:=⟨kvs[i],A03 hi⟩;obtain⟨u,hu,_⟩:=KV.get rv hkv;obtain⟨f0,f1,f2,f3,f4,f5⟩:=hf it ∅;rw[hl] at st;refine wpAny_pyNext_dict_item st hat hu λkey h' hkey hit' hs'=>?_;have I1:Inv X pins σ H {s with heap:=h'}:=I.turned (t':=s.toks) (λb o hb e=>(hs'.2 b hb).trans e) f0 f1 f3 f4 f5
  obtain⟨o',e,c,d⟩:=id hit';exact⟨key,rfl,Tk (s:={s with heap:=h'}) e c d nofun ⟨kV kv.1,H,I1,Zb hkey,⟨rfl,kv,hkv,rfl⟩,by rw[hl];exact hit',λb hb=>(hf b hb).1⟩⟩
 done:=by intro X hP hw hK hc i pins s σ H E I hf st hg;subst hP hw hK;obtain⟨hH,hi⟩:=hg;obtain⟨vs,rv,hat⟩:=S7 I hH hd;have hl:kvs.length=vs.length:=A32 rv;obtain⟨f0,f1,f2,f3,f4,f5⟩:=hf it ∅;rw[hl] at st;exact wpAny_pyNext_dict_end (I.ok.hd hc) st hat (List.getElem?_eq_none (by omega)) λh' eb=>⟨rfl,I.turned (t':=s.toks) (λb o hb e=>eb b o hb e) f0 f1 f3 f4 f5⟩
 self:=λA i s Q E st hQ=>wpAny_pyIter_keyiter st hQ
theorem a64 {X:Cx}{tg:Expr}{pins:List (Addr×Obj)}{σ:St}{H:Hp}{s:Shared}{a:Addr}{kvs:List (Key×V)}{R:It->Hp->Prop}{E:Value->Shared->Prop}(I:Inv X pins σ H s)(h:H a=some (.dK kvs))(q:∀ o,R (Itd a o kvs) (upd H a (.frz o (.dK kvs)))) :
  wpAny (model X.prog X.w) X.A (pyIter (.ref a)) (PIE X pins σ tg R) E s:=by
 obtain⟨_,hs,vs,rv,o,es,ep,ho,c,hd,rest⟩:=I.hok a _ h;have I1:=I.freeze h ho;have hl:kvs.length=vs.length:=A32 rv;refine wpAny_pyIter_dict (knd:=Ak X.prog X.w) hs ⟨o,es,ho,c,hd,rest⟩ ?_;rw[<- hl];refine⟨s.heap.objs.size,[s.heap.objs.size],_,_,_,rfl,I1.kept (t':=s.toks) λb o e=>A01 _ e,Np a _ o kvs es ep hd,⟨_,A0E _ rfl,rfl,rfl⟩,λb hb=>?_,q o⟩;have e:b=s.heap.objs.size:=by simpa using hb
 subst e;exact I1.fpOk (A0A _) (I1.hok.fresh (A0A _))
theorem Vt {X:Cx}{tg:Expr}{pins:List (Addr×Obj)}{σ:St}{H:Hp}{s:Shared}{a:Addr}{kvs:List (Key×V)}{o:Obj}{R:It->Hp->Prop}{E:Value->Shared->Prop}(I:Inv X pins σ H s)(h:H a=some (.frz o (.dK kvs)))(q:R (Itd a o kvs) H) :
  wpAny (model X.prog X.w) X.A (pyIter (.ref a)) (PIE X pins σ tg R) E s:=by
 obtain⟨ho',_,hs,vs,rv,o',es,ep,ho,c,hd,rest⟩:=I.hok a _ h;rw[ho'] at ho
 cases ho;have hl:kvs.length=vs.length:=A32 rv;refine wpAny_pyIter_dict (knd:=Ak X.prog X.w) hs ⟨o,es,ho',c,hd,rest⟩ ?_;rw[<- hl];refine⟨s.heap.objs.size,[s.heap.objs.size],_,_,_,rfl,I.kept (t':=s.toks) λb o e=>A01 _ e,Np a _ o kvs es ep hd,⟨_,A0E _ rfl,rfl,rfl⟩,λb hb=>?_,q⟩;have e:b=s.heap.objs.size:=by simpa using hb
 subst e;exact I.fpOk (A0A _) (I.hok.fresh (A0A _))
theorem Same.seqT {K:W.Frag}{H H':Hp}{a:Addr}{xs:List V}(e:Same H H')(h:SqT K H a xs):SqT K H' a xs:=by
 rcases h with (h|⟨o,h⟩)|h
 . exact .inl (.inl (e _ _ h))
 . exact .inl (.inr ⟨o,e _ _ h⟩)
 exact .inr h
mutual
def Is (K:W.Frag)(H:Hp):PyData->V->Prop
 |.none,v=>v = .non
 |.bool b,v=>v = .bl b
 |.int i,v=>v = .int i
 |.str x,v=>v = .str x
 |.list ds,v=>∃ a xs,v = .ref a/\SqL K H a xs/\IsL K H ds xs
 |.tuple ds,v=>∃ a xs,v = .ref a/\SqT K H a xs/\IsL K H ds xs
 |.dict _,_=>False
def IsL (K:W.Frag)(H:Hp):List PyData->List V->Prop
 | [],vs=>vs=[]
 |d :: ds,vs=>∃ v r,vs=v :: r/\Is K H d v/\IsL K H ds r
end
mutual
theorem Is.mono {K:W.Frag}{H H':Hp}(e:Same H H'):∀(d:PyData) (v:V),Is K H d v->Is K H' d v
 |.none,_,h=>by simp only[Is] at h ⊢;exact h
 |.bool _,_,h=>by simp only[Is] at h ⊢;exact h
 |.int _,_,h=>by simp only[Is] at h ⊢;exact h
 |.str _,_,h=>by simp only[Is] at h ⊢;exact h
 |.list ds,v,h=>by simp only[Is] at h ⊢;obtain⟨a,xs,e1,e2,e3⟩:=h;exact⟨a,xs,e1,e.seq e2,IsL.mono e ds xs e3⟩
 |.tuple ds,v,h=>by simp only[Is] at h ⊢;obtain⟨a,xs,e1,e2,e3⟩:=h;exact⟨a,xs,e1,e.seqT e2,IsL.mono e ds xs e3⟩
 |.dict _,_,h=>by simp only[Is] at h
theorem IsL.mono {K:W.Frag}{H H':Hp}(e:Same H H'):∀(ds:List PyData) (vs:List V),IsL K H ds vs->IsL K H' ds vs
 | [],_,h=>by simp only[IsL] at h ⊢;exact h
 |d :: ds,vs,h=>by simp only[IsL] at h ⊢;obtain⟨v,r,e1,e2,e3⟩:=h;exact⟨v,r,e1,Is.mono e d v e2,IsL.mono e ds r e3⟩
end
section
variable {X:Cx}{pins:List (Addr×Obj)}{σ:St}{H:Hp}{s:Shared}
mutual
theorem Is.reads (I:Inv X pins σ H s):∀(d:PyData) (v:V) (u:Value),Is X.K H d v->RelV v u->∃ as,Reads s.heap u d as
 |.none,v,u,i,r=>by
   simp only[Is] at i;subst i
   cases r;exact⟨_,.none⟩
 |.bool b,v,u,i,r=>by
   simp only[Is] at i;subst i
   cases r;exact⟨_,.bool b⟩
 |.int n,v,u,i,r=>by simp only[Is] at i;subst i;obtain⟨t,rfl⟩:=r;exact⟨_,.int n t⟩
 |.str x,v,u,i,r=>by simp only[Is] at i;subst i;obtain⟨t,rfl⟩:=r;exact⟨_,.str x t⟩
 |.list ds,v,u,i,r=>by
   simp only[Is] at i;obtain⟨a,xs,rfl,e2,e3⟩:=i
   cases r;obtain⟨its,rv,⟨o,n,e,hc,hd,hs⟩,_⟩:=I.list e2;obtain⟨as,ra⟩:=IsL.reads I ds xs its e3 rv;exact⟨_,.list e hc hs (by simpa using ra)⟩
 |.tuple ds,v,u,i,r=>by
   simp only[Is] at i;obtain⟨a,xs,rfl,e2,e3⟩:=i
   cases r;obtain⟨its,rv,⟨o,e,hc,n,hd⟩,_⟩:=I.tuple e2;obtain⟨as,ra⟩:=IsL.reads I ds xs its e3 rv;exact⟨_,.tuple e hc hd (by simpa using ra)⟩
 |.dict _,_,_,i,_=>by simp only[Is] at i
theorem IsL.reads (I:Inv X pins σ H s):∀(ds:List PyData) (vs:List V) (us:List Value),IsL X.K H ds vs->Vals vs us->∃ as,ReadsAll s.heap us ds as
 | [],vs,us,i,r=>by
   simp only[IsL] at i;subst i
   cases r;exact⟨_,.nil⟩
 |d :: ds,vs,us,i,r=>by
   simp only[IsL] at i;obtain⟨v,rr,rfl,e2,e3⟩:=i
   cases r with
   |cons r1 r2=>obtain⟨a1,h1⟩:=Is.reads I d v _ e2 r1;obtain⟨a2,h2⟩:=IsL.reads I ds rr _ e3 r2;exact⟨_,.cons h1 h2⟩
end
end
theorem Sv {K:W.Frag}{H:Hp}:∀ ns:List Int,IsL K H (ns.map PyData.int) (ns.map V.int)
 | []=>by simp only[List.map_nil,IsL]
 |n :: r=>by simp only[List.map_cons,IsL];exact⟨_,_,rfl,by simp only[Is],Sv r⟩
theorem Rx {K:W.Frag}{H:Hp}:∀ ns:List Str,IsL K H (ns.map PyData.str) (ns.map V.str)
 | []=>by simp only[List.map_nil,IsL]
 |n :: r=>by simp only[List.map_cons,IsL];exact⟨_,_,rfl,by simp only[Is],Rx r⟩
theorem Qd {K:W.Frag}{H:Hp}{a:Addr}{ns:List Int}(h:SqL K H a (ns.map V.int)):Is K H (.list (ns.map PyData.int)) (.ref a):=by simp only[Is];exact⟨a,_,rfl,h,Sv ns⟩
structure QA (A:Around):Prop where
 un:A.units+150<cLine
 gd:A.guards=some []
theorem C3 {A:Around}{k:Nat}(hr:Room k A):QA A:=⟨by have:=hr.un;omega,hr.gd⟩
section
variable {X:Cx}
def Qk (K:W.Frag):R2:=λx y H Q=>(∃ i j,x = .int i/\y = .int j/\Q (.int (i+j)) H)\/(∃ i j,x = .str i/\y = .str j/\i.length+j.length<=sizeLine/\Q (.str (i++j)) H)\/aq6 x y H Q\/ac6 K x y H Q\/ac5 K x y H Q
theorem Z0:OpR X (binaryOp .Add) (Qk X.K):=op_add.or (op_add_str.or (op_cat.or (op_catT.or a49)))
def Yy:R2:=λx y H Q=>(∃ i j,x = .int i/\y = .int j/\CMul i j/\Q (.int (i*j)) H)\/aq4 x y H Q
theorem op_mulA:OpR X (binaryOp .Mult) Yy:=op_mul.or ah6
theorem Im:OpR X (binaryOp .FloorDiv) (rI an5 λi j=>.int (i / j)):=Zl
def ak5 (K:W.Frag)(neg:Bool):R2:=λx y H Q=>∃ dx dy,Is K H dx x/\Is K H dy y/\SeqAt.shaped dx=true/\SeqAt.shaped dy=true/\Q (.bl (if neg then !PyData.eqv dx dy else PyData.eqv dx dy)) H
theorem a98 (hq:QA X.A):OpR X (compareOp .Eq) (ak5 X.K false):=by intro pins s σ H x y v u Q I rx ry h;obtain⟨dx,dy,ix,iy,sx,sy,q⟩:=h;obtain⟨as,ra⟩:=Is.reads I dx x v ix rx;obtain⟨bs,rb⟩:=Is.reads I dy y u iy ry;exact eq_dataH ra rb sx sy (by have:=hq.un;omega) ⟨.bl _,H,I,rfl,q⟩
theorem ah2 (hq:QA X.A):OpR X (compareOp .NotEq) (ak5 X.K true):=by intro pins s σ H x y v u Q I rx ry h;obtain⟨dx,dy,ix,iy,sx,sy,q⟩:=h;obtain⟨as,ra⟩:=Is.reads I dx x v ix rx;obtain⟨bs,rb⟩:=Is.reads I dy y u iy ry;exact ne_dataH ra rb sx sy (by have:=hq.un;omega) ⟨.bl _,H,I,rfl,q⟩
def ak9 (K:W.Frag):R2:=λx y H Q=>rEq x y H Q\/ak5 K false x y H Q
def aj6 (K:W.Frag):R2:=λx y H Q=>rNe x y H Q\/ak5 K true x y H Q
theorem a91 (hq:QA X.A):OpR X (compareOp .Eq) (ak9 X.K):=op_eq.or (a98 hq)
theorem ai4 (hq:QA X.A):OpR X (compareOp .NotEq) (aj6 X.K):=op_ne.or (ah2 hq)
def rInT (neg:Bool):R2:=λx y H Q=>∃ i j,x = .str i/\y = .str j/\Q (.bl (if neg then !(!(Builtin.Str.occurrences j i 0 j.length 1).isEmpty) else !(Builtin.Str.occurrences j i 0 j.length 1).isEmpty)) H
def ap5 (neg:Bool):R2:=λx y H Q=>∃ a o,y = .ref a/\DGet H a x o/\Q (.bl (if neg then !o.isSome else o.isSome)) H
theorem a78 (hu:X.A.units+1<cLine):OpR X (compareOp .In) (ap5 false):=by
 intro pins s σ H x y v u Q I rx ry h;obtain⟨a,o,rfl,g,q⟩:=h
 cases ry;exact d_in hu I g rx λs' I'=>⟨.bl _,H,I',rfl,q⟩
theorem U0 (hu:X.A.units+1<cLine):OpR X (compareOp .NotIn) (ap5 true):=by
 intro pins s σ H x y v u Q I rx ry h;obtain⟨a,o,rfl,g,q⟩:=h
 cases ry;exact Zy hu I g rx λs' I'=>⟨.bl _,H,I',rfl,q⟩
def ao4 (K:W.Frag)(neg:Bool):R2:=λx y H Q=>∃ d ds,Is K H d x/\(Is K H (.list ds) y\/Is K H (.tuple ds) y)/\PyData.canLayAll0 ds=true/\d.canLay0=true/\d.depth<=100/\Q (.bl (if neg then !(ds.any λe=>PyData.eqv e d) else ds.any λe=>PyData.eqv e d)) H
theorem aa5 (hq:QA X.A):OpR X (compareOp .In) (ao4 X.K false):=by
 intro pins s σ H x y v u Q I rx ry h;obtain⟨d,ds,ix,iy,h1,h2,h3,q⟩:=h;obtain⟨bs,rb⟩:=Is.reads I d x v ix rx;rcases iy with iy|iy
 . obtain⟨as,ra⟩:=Is.reads I _ y u iy ry;exact SeqAt.in_list_reads ra rb h1 h2 (by have:=hq.un;have:=A3G (PyData.depthAll ds) d.depth;omega) ⟨.bl _,H,I,rfl,q⟩
 obtain⟨as,ra⟩:=Is.reads I _ y u iy ry;exact SeqAt.in_tuple_reads ra rb h1 h2 (by have:=hq.un;have:=A3G (PyData.depthAll ds) d.depth;omega) ⟨.bl _,H,I,rfl,q⟩
theorem Uk (hq:QA X.A):OpR X (compareOp .NotIn) (ao4 X.K true):=by
 intro pins s σ H x y v u Q I rx ry h;obtain⟨d,ds,ix,iy,h1,h2,h3,q⟩:=h;obtain⟨bs,rb⟩:=Is.reads I d x v ix rx;rcases iy with iy|iy
 . obtain⟨as,ra⟩:=Is.reads I _ y u iy ry;exact SeqAt.notIn_list_reads ra rb h1 h2 (by have:=hq.un;have:=A3G (PyData.depthAll ds) d.depth;omega) ⟨.bl _,H,I,rfl,q⟩
 obtain⟨as,ra⟩:=Is.reads I _ y u iy ry;exact SeqAt.notIn_tuple_reads ra rb h1 h2 (by have:=hq.un;have:=A3G (PyData.depthAll ds) d.depth;omega) ⟨.bl _,H,I,rfl,q⟩
def Va (K:W.Frag)(neg:Bool):R2:=λx y H Q=>rIn K neg x y H Q\/rInT neg x y H Q\/ap5 neg x y H Q\/ao4 K neg x y H Q
theorem QA.hu {A:Around}(h:QA A):A.units+1<cLine:=by have:=h.un;omega
theorem aa1 (hq:QA X.A):OpR X (compareOp .In) (Va X.K false):=op_in_seq.or (op_in_str.or ((a78 hq.hu).or (aa5 hq)))
theorem S4 (hq:QA X.A):OpR X (compareOp .NotIn) (Va X.K true):=op_notIn_seq.or (op_notIn_str.or ((U0 hq.hu).or (Uk hq)))
def aa6 (K:W.Frag):V->Option Int->Option Int->Hp->VK->Prop:=λx lo hi H Q=>ar7 K x lo hi H Q\/ar8 K x lo hi H Q\/aq3 x lo hi H Q\/ar5 K x lo hi H Q
theorem sl_A:SlR X (aa6 X.K):=sl_list.or (sl_tup.or (sl_str.or W6))
def at0:R2:=λx y H Q=>∃ a v,x = .ref a/\DGet H a y (some v)/\Q v H
theorem a43 (hu:X.A.units+1<cLine):IxR X at0:=by
 intro value slice pins s σ H x y v u Q I rx ry h hs;obtain⟨a,z,rfl,g,q⟩:=h
 cases rx;exact tail_any (Op I g) PySem.F.slot_dict_getitem.lookup (Ti hu I g ry λw' s' I' rw'=>⟨z,H,I',rw',q⟩) hs
def Qx (K:W.Frag):R2:=λx y H Q=>rIx K x y H Q\/at0 x y H Q
theorem aj2 (hu:X.A.units+1<cLine):IxR X (Qx X.K):=ix_seq.or (a43 hu)
def Mz (K:W.Frag):List V->Hp->VK->Prop:=λxs H Q=>(∃ x n,xs=[x]/\aq9 K x H n/\Q (.int n) H)\/∃ a kvs,xs=[V.ref a]/\H a=some (.dK kvs)/\Q (.int kvs.length) H
theorem Uu:CallR X (.builtin "len") (Mz X.K):=call_len.or Ut
def Dz (K:W.Frag):List V->Hp->VK->Prop:=λxs H Q=>(∃ x c t b,xs=[x,.ty c]/\TyOf K H x t/\W.kitOne K t (.type c)=some b/\Q (.bl b) H)\/(∃ x c t b,xs=[x,.ref c]/\TyOf K H x t/\W.kitOne K t (.ref c)=some b/\Q (.bl b) H)\/∃ a ys c b,xs=[V.ref a,.ty c]/\((SqT K H a ys/\W.kitOne K (.type "tuple") (.type c)=some b)\/(SqL K H a ys/\W.kitOne K (.type "list") (.type c)=some b))/\Q (.bl b) H
theorem Nx:CallR X (.builtin "isinstance") (Dz X.K):=call_isinst.or (call_isinstR.or Nh)
def Pt (K:W.Frag):List V->Hp->VK->Prop:=λxs H Q=>∃ p ys,xs=[.ref p]/\(SqL K H p ys\/SqT K H p ys)/\∀ l,H l=none->Q (.ref l) (upd H l (.lst ys))
theorem Qo:CallR X (.type "list") (Pt X.K):=M4
def ab1:List V->Hp->VK->Prop:=λxs H Q=>(∃ b,xs=[.bl b]/\Q (.str (if b then "True" else "False")) H)\/(xs=[.non]/\Q (.str "None") H)
def am0:List V->Hp->VK->Prop:=λxs H Q=>(∃ i,xs=[.int i]/\Q (.int i) H)\/∃ k,xs=[.bl k]/\Q (.int (if k then 1 else 0)) H
def a12 (K:W.Frag):List V->Hp->VK->Prop:=λxs H Q=>∃(a:Addr) (bs:List Bool),xs=[.ref a]/\SqL K H a (bs.map V.bl)/\Q (.bl (bs.all id)) H
theorem Tn (hc:X.calm=true):CallR X (.builtin "all") (a12 X.K):=Wz hc
def a45 (K:W.Frag):List V->Hp->VK->Prop:=λxs H Q=>∃(a:Addr) (bs:List Bool),xs=[.ref a]/\SqL K H a (bs.map V.bl)/\Q (.bl (bs.any id)) H
theorem Sr (hc:X.calm=true):CallR X (.builtin "any") (a45 X.K):=W8 hc
variable {tg:Expr}
def El (K:W.Frag)(x:V)(H1:Hp)(R:It->Hp->Prop):Prop:=(∃ a,x = .ref a/\(∃ xs,SqL K H1 a xs)/\R (Itl K a) H1)\/(∃ a,x = .ref a/\(∃ xs,SqT K H1 a xs)/\R (Itt K a) H1)\/(∃ z,x = .str z/\R (Its z) H1)\/∃ a kvs,x = .ref a/\((H1 a=some (.dK kvs)/\∀ o,R (Itd a o kvs) (upd H1 a (.frz o (.dK kvs))))\/∃ o,H1 a=some (.frz o (.dK kvs))/\R (Itd a o kvs) H1)
def ao5 (K:W.Frag)(tl:TE):TI:=fun σ H R=>tl σ H λx H1=>El K x H1 R
theorem ae6 (hu:X.A.units+1<cLine){l:Expr}{tl:TE}(hl:PE X l tl):PI X tg l (ao5 X.K tl):=by
 intro pins s σ H R I h;refine thn (hl pins s σ H _ I h) λv s1 ⟨x,H1,I1,r1,q1⟩=>?_;rcases q1 with ⟨a,e,⟨xs,hq⟩,q⟩|⟨a,e,⟨xs,hq⟩,q⟩|⟨z,e,q⟩|⟨a,kvs,e,q⟩
 . subst e
   cases r1;obtain⟨its,rv,p,hz⟩:=I1.list hq;refine A3D p.isList ?_;refine⟨s1.heap.objs.size,[s1.heap.objs.size],_,_,H1,rfl,I1.kept (t':=s1.toks) λb o e=>A01 _ e,Sn a _,⟨_,A0E _ rfl,rfl,rfl⟩,λb hb=>?_,q⟩;have e:b=s1.heap.objs.size:=by simpa using hb
   subst e;exact I1.fpOk (A0A _) (I1.hok.fresh (A0A _))
 . subst e
   cases r1;obtain⟨its,rv,p,hz⟩:=I1.tuple hq;refine A27 (show s1.heap.IsTuple a its.toArray from p) ?_;refine⟨s1.heap.objs.size,[s1.heap.objs.size],_,_,H1,rfl,I1.kept (t':=s1.toks) λb o e=>A01 _ e,Rb a _,⟨_,A0E _ rfl,rfl,rfl⟩,λb hb=>?_,q⟩;have e:b=s1.heap.objs.size:=by simpa using hb
   subst e;exact I1.fpOk (A0A _) (I1.hok.fresh (A0A _))
 . subst e;exact ae0 I1 r1 q
 subst e
 cases r1;rcases q with ⟨hd,q⟩|⟨o,hd,q⟩
 . exact a64 I1 hd q
 exact Vt I1 hd q
end
def Fnd (P:Program)(w:World)(K:W.Frag)(mg:Str->Option Value)(base:Heap)(k:Nat)(x:Str)(ps:List Str)(sp:Sp):Prop:=
 ∃ f fd,FnOk P w K mg base CX0 k f fd ps sp/\mg x=some (.ref f)/\W.keepIn K (.ref f)=true/\Binds K fd ps []
section
variable {X:Cx}{k:Nat}{x:Str}{ps:List Str}{sp:Sp}{e:Expr}{es:List Expr}{t:TA}{p pos:Pos}
theorem As (F:Fnd X.prog X.w X.K X.mg X.base k x ps sp)(hr:Room k X.A)(hg:Gl X x)(ha:PA X (e :: es) t)(hdb:(x==("__debug__":Str))=false:=by decide)
  (he:starEach (e :: es) X.env=(false,eval e X.env) :: starEach es X.env:=by ac_nf) (hpl:(backTo pos (starEach es X.env)).any (·.1)=false:=by ac_nf):PE X (.Call (.Name x p) (e :: es) [] pos) (W4 sp [] E0 t):=by
 obtain⟨f,fd,h1,h2,h3,h4⟩:=F;exact Tt h1 hr hg h2 h3 h4 .nil am9 ha hdb he hpl
end
def ExtBut (d:Addr)(H H':Hp):Prop:=∀ b o,b≠d->H b=some o->H' b=some o
theorem Same.lk {H H':Hp}{a:Addr}{o:HO}(e:Same H H')(h:H a=some o):H' a=some o:=e a o h
theorem ExtBut.lk {d:Addr}{H H':Hp}{a:Addr}{o:HO}(e:ExtBut d H H')(h:H a=some o)(n:a≠d):H' a=some o:=e a o n h
theorem Same.upd {H:Hp}{p:Addr}{o:HO}(h:H p=none):Same H (upd H p o):=λb u e=>by rw[Al (ne_of_none e h)];exact e
theorem ExtBut.upd {H:Hp}{p:Addr}{o:HO}:ExtBut p H (upd H p o):=λb u n e=>by rw[Al n];exact e
theorem ExtBut.trans {d:Addr}{H H1 H2:Hp}(a:ExtBut d H H1)(b:ExtBut d H1 H2):ExtBut d H H2:=λc o n h=>b c o n (a c o n h)
theorem ExtBut.same {d:Addr}{H H1 H2:Hp}(a:ExtBut d H H1)(b:Same H1 H2):ExtBut d H H2:=λc o n h=>b c o (a c o n h)
theorem ExtBut.after {d:Addr}{H H1 H2:Hp}(a:Same H H1)(b:ExtBut d H1 H2):ExtBut d H H2:=λc o n h=>b c o n (a c o h)
theorem ExtBut.refl {d:Addr}{H:Hp}:ExtBut d H H:=λ_ _ _ h=>h
theorem ExtBut.fresh {p:Addr}{H H':Hp}(h:H p=none)(e:ExtBut p H H'):Same H H':=λb o q=>e b o (ne_of_none q h) q
theorem ExtBut.seq {K:W.Frag}{d:Addr}{H H':Hp}{a:Addr}{xs:List V}(e:ExtBut d H H')(n:a≠d)(h:SqL K H a xs):SqL K H' a xs:=by
 rcases h with (h|⟨o,h⟩)|h
 . exact .inl (.inl (e _ _ n h))
 . exact .inl (.inr ⟨o,e _ _ n h⟩)
 exact .inr h
def aj1 (xs:List V)(H:Hp)(Q:VK):Prop:=xs.length<=sizeLine/\∀ p,H p=none->Q (.ref p) (upd H p (.tup xs))
def aa7 (xs:List V)(H:Hp)(Q:VK):Prop:=xs.length<=sizeLine/\∀ p,H p=none->Q (.ref p) (upd H p (.lst xs))
def ai5 (vs:List V)(H:Hp)(R:It->Hp->Prop):Prop:=∃ j:Int,vs=[.int j] /\ -(2 ^ 62)<=j/\j<2 ^ 62/\R (Itr 0 j.toNat) H
def ap0 (vs:List V)(H:Hp)(R:It->Hp->Prop):Prop:=∃ i j:Int,vs=[.int i,.int j]/\(-(2 ^ 62)<=i/\i<2 ^ 62 /\ -(2 ^ 62)<=j/\j<2 ^ 62)/\R (Itr i (j-i).toNat) H
def a25 (g:TG)(tb:TS)(D:Ends)(σ:St)(J:It)(H1:Hp):Prop:=∃ W:Nat->Nat->St->Hp->Prop,(∃ m,W 0 m σ H1)/\∀ i m σ H,W i m σ H ->
 (J.stop i H/\D.nx σ H)\/(J.go i H/\∃ N:St->Hp->Prop,(∀ σ' H',N σ' H'->∃ m',m'<m/\W (i+1) m' σ' H')/\∀ x H',J.yld i H x H'->g x σ H' fun σ2 H2=>tb {D with nx:=N,ct:=N,bk:=D.nx} σ2 H2)
def Og (k:Nat)(js:List Nat)(g:TG)(tt:TT)(te:TE)(σ:St)(J:It)(H1:Hp)(Q:VK):Prop:=∀ p,H1 p=none ->
 ∃ W:Nat->Nat->Hp->Prop,(∃ m,W 0 m (upd H1 p (.lst [])))/\∀ i m H,W i m H ->
  (J.stop i H/\Q (.ref p) H)\/(J.go i H/\∃ N:Hp->Prop,(∀ H',N H'->∃ m',m'<m/\W (i+1) m' H') /\
   ∀ x H',J.yld i H x H'->g x (List.replicate k none++N4 σ js) H' fun σ2 H2=>tt σ2 H2 λb H3=>if b=true then te σ2 H3 λy H4=>∃ acc,H4 p=some (.lst acc)/\acc.length<sizeLine/\N (upd H4 p (.lst (acc++[y]))) else N H3)
def Xn (p:Addr)(ps:List (V×V))(H:Hp)(Q:VK):Prop:=H p=some (.dK [])/\∃ kvs:List (Key×V),ps=kvs.map (λkv=>(kV kv.1,kv.2))/\kvs.length<=15/\Q (.ref p) (upd H p (.dK (Cz [] kvs)))
section
variable {K:W.Frag}{σ:St}{H:Hp}{Q:VK}{D:Ends}{ta tb te:TE}{c:TT}{t u:TS}{x y v:V}{i j:Int}
theorem i_var {n:Nat}(h:σ[n]? = some (some v))(k:Q v H):ap2 n σ H Q:=⟨v,h,k⟩
theorem i_c (k:Q v H):tC v σ H Q:=k
theorem i_next (k:D.nx σ H):ab7 D σ H:=k
theorem i_ret (k:te σ H D.rt):as7 te D σ H:=k
theorem i_drop (k:te σ H λ_ H1=>D.nx σ H1):Vv te D σ H:=k
theorem i_asg {g:TG}(k:te σ H λx H1=>g x σ H1 D.nx):a71 te g D σ H:=k
theorem i_gname {n:Nat}{R:St->Hp->Prop}(k:R (σ.set n (some v)) H):Hf n v σ H R:=k
theorem i_if (k:c σ H λb H1=>if b=true then t D σ H1 else u D σ H1):at1 c t u D σ H:=k
theorem i_op {r:R2}(k:ta σ H λx H1=>tb σ H1 λy H2=>r x y H2 Q):tOp r ta tb σ H Q:=k
theorem i_un {r:V->Hp->VK->Prop}(k:ta σ H λx H1=>r x H1 Q):tUn r ta σ H Q:=k
theorem i_rU {g:Int->V}(k:Q (g i) H):rU g (.int i) H Q:=⟨i,rfl,k⟩
theorem i_rI0 {g:Int->Int->V}(k:Q (g i j) H):rI0 g (.int i) (.int j) H Q:=⟨i,j,rfl,rfl,k⟩
theorem i_rI {C:Int->Int->Prop}{g:Int->Int->V}(h:C i j)(k:Q (g i j) H):rI C g (.int i) (.int j) H Q:=⟨i,j,rfl,rfl,h,k⟩
theorem i_addI (k:Q (.int (i+j)) H):Qk K (.int i) (.int j) H Q:=.inl ⟨i,j,rfl,rfl,k⟩
theorem i_addS {a b:Str}(h:a.length+b.length<=sizeLine)(k:Q (.str (a++b)) H):Qk K (.str a) (.str b) H Q:=.inr (.inl ⟨a,b,rfl,rfl,h,k⟩)
theorem M5 {a b:Addr}{xs ys:List V}(h1:H a=some (.lst xs))(h2:H b=some (.lst ys))(h:xs.length+ys.length<=sizeLine)(k:∀ p H',H p=none->Same H H'->H' p=some (.lst (xs++ys))->Q (.ref p) H'):Qk K (.ref a) (.ref b) H Q:=
 .inr (.inr (.inl ⟨a,b,xs,ys,rfl,rfl,h1,h2,h,λp hp=>k p _ hp (Same.upd hp) Aa⟩))
theorem ag4 (h:CMul i j)(k:Q (.int (i*j)) H):Yy (.int i) (.int j) H Q:=.inl ⟨i,j,rfl,rfl,h,k⟩
theorem i_eqS (h:aj8 x y=true)(k:Q (.bl (decide (x=y))) H):ak9 K x y H Q:=.inl ⟨h,k⟩
theorem i_neS (h:aj8 x y=true)(k:Q (.bl (!decide (x=y))) H):aj6 K x y H Q:=.inl ⟨h,k⟩
theorem a48 {dx dy:PyData}(h1:Is K H dx x)(h2:Is K H dy y)(h3:SeqAt.shaped dx=true)(h4:SeqAt.shaped dy=true)(k:Q (.bl (PyData.eqv dx dy)) H):ak9 K x y H Q:=.inr ⟨dx,dy,h1,h2,h3,h4,k⟩
theorem U7 {dx dy:PyData}(h1:Is K H dx x)(h2:Is K H dy y)(h3:SeqAt.shaped dx=true)(h4:SeqAt.shaped dy=true)(k:Q (.bl (!PyData.eqv dx dy)) H):aj6 K x y H Q:=.inr ⟨dx,dy,h1,h2,h3,h4,k⟩
theorem i_true {R:Bool->Hp->Prop}(k:R true H):Uv σ H R:=k
theorem i_tTest {R:Bool->Hp->Prop}(k:te σ H λx H'=>∃ b,x = .bl b/\R b H'):Yx te σ H R:=k
theorem i_tB {R:Bool->Hp->Prop}(k:te σ H λx H'=>∃ b,x = .bl b/\R b H'):tB te σ H R:=k
theorem i_bl {b:Bool}{R:Bool->Prop}(k:R b):∃ c,V.bl b = .bl c/\R c:=⟨b,rfl,k⟩
theorem i_not {R:Bool->Hp->Prop}(k:c σ H λb H1=>R (!b) H1):as9 c σ H R:=k
theorem i_and {c':TT}{R:Bool->Hp->Prop}(k:c σ H λb H1=>if b=true then c' σ H1 R else R false H1):as1 c c' σ H R:=k
theorem i_or {c':TT}{R:Bool->Hp->Prop}(k:c σ H λb H1=>if b=true then R true H1 else c' σ H1 R):tOr c c' σ H R:=k
theorem Qq {a:Addr}{xs:List V}(h:H a=some (.lst xs))(e:atI xs i=some v)(k:Q v H):Qx K (.ref a) (.int i) H Q:=.inl (.inl ⟨a,xs,i,v,rfl,rfl,SqL.of h,e,k⟩)
theorem a57 {z:Str}{s:Nat}(h:z.length<=sizeLine)(e:atI z.cps.toList i=some s)(k:Q (.str ⟨#[s]⟩) H):Qx K (.str z) (.int i) H Q:=.inl (.inr (.inr ⟨z,i,s,rfl,rfl,h,e,k⟩))
theorem i_ixD {a:Addr}{kvs:List (Key×V)}{z:Str}(h:H a=some (.dK kvs))(e:Cf kvs (Sum.inr z:Key)=some v)(k:Q v H):Qx K (.ref a) (.str z) H Q:=.inr ⟨a,v,rfl,by rw[<- e];exact DGet.k (k:=Sum.inr z) h,k⟩
theorem i_lenL {a:Addr}{xs:List V}(h:H a=some (.lst xs))(k:Q (.int xs.length) H):Mz K [.ref a] H Q:=.inl ⟨.ref a,_,rfl,.inl ⟨xs,SqL.of h,rfl⟩,k⟩
theorem i_lenT {a:Addr}{xs:List V}(h:H a=some (.tup xs))(k:Q (.int xs.length) H):Mz K [.ref a] H Q:=.inl ⟨.ref a,_,rfl,.inr ⟨xs,SqT.of h,rfl⟩,k⟩
theorem i_lenS {z:Str}(h:z.length<=sizeLine)(k:Q (.int z.length) H):Mz K [.str z] H Q:=.inl ⟨.str z,_,rfl,⟨h,rfl⟩,k⟩
theorem E5 {c:String}{t:Value}{b:Bool}(h:TyOf K H x t)(e:W.kitOne K t (.type c)=some b)(k:Q (.bl b) H):Dz K [x,.ty c] H Q:=.inl ⟨x,c,t,b,rfl,h,e,k⟩
theorem Q0 {c:String}{b:Bool}{a:Addr}{ys:List V}(h:SqT K H a ys)(e:W.kitOne K (.type "tuple") (.type c)=some b)(k:Q (.bl b) H):Dz K [.ref a,.ty c] H Q:=.inr (.inr ⟨a,ys,c,b,rfl,.inl ⟨h,e⟩,k⟩)
theorem Pq {c:String}{b:Bool}{a:Addr}{ys:List V}(h:SqL K H a ys)(e:W.kitOne K (.type "list") (.type c)=some b)(k:Q (.bl b) H):Dz K [.ref a,.ty c] H Q:=.inr (.inr ⟨a,ys,c,b,rfl,.inr ⟨h,e⟩,k⟩)
theorem Zd {a:Addr}{xs:List V}(h:SqL K H a xs)(k:∀ p H',H p=none->Same H H'->H' p=some (.lst xs)->Q (.ref p) H'):Pt K [.ref a] H Q:=⟨a,xs,rfl,.inl h,λp hp=>k p _ hp (Same.upd hp) Aa⟩
theorem i_intB {b:Bool}(k:Q (.int (if b then 1 else 0)) H):am0 [.bl b] H Q:=.inr ⟨b,rfl,k⟩
theorem Vm {a:Addr}{bs:List Bool}(h:SqL K H a (bs.map V.bl))(k:Q (.bl (bs.all id)) H):a12 K [.ref a] H Q:=⟨a,bs,rfl,h,k⟩
theorem ad6 {a:Addr}{bs:List Bool}(h:SqL K H a (bs.map V.bl))(k:Q (.bl (bs.any id)) H):a45 K [.ref a] H Q:=⟨a,bs,rfl,h,k⟩
theorem i_sl {r:V->Option Int->Option Int->Hp->VK->Prop}{tl th:TO}(k:te σ H λx H1=>tl σ H1 λl H2=>th σ H2 λu H3=>r x l u H3 Q):tSl r te tl th σ H Q:=k
theorem i_noPart {R:Option Int->Hp->Prop}(k:R none H):V3 σ H R:=k
theorem i_part {R:Option Int->Hp->Prop}(k:te σ H λx H1=>∃ i,x = .int i/\R (some i) H1):ai1 te σ H R:=k
theorem i_int {R:Int->Prop}(k:R i):∃ j,V.int i = .int j/\R j:=⟨i,rfl,k⟩
theorem i_slS {z:Str}{lo hi:Option Int}(h:z.length<=sizeLine)(k:Q (.str (Txt.slice z lo hi)) H):aa6 K (.str z) lo hi H Q:=.inr (.inr (.inl ⟨z,rfl,h,k⟩))
theorem ap4 {a:Addr}{xs:List V}{lo hi:Option Int}(h:SqL K H a xs)(k:∀ p H',H p=none->Same H H'->H' p=some (.lst (O7 xs lo hi))->Q (.ref p) H'):aa6 K (.ref a) lo hi H Q:=.inl ⟨a,xs,rfl,h,λp hp=>k p _ hp (Same.upd hp) Aa⟩
theorem i_inS {a b:Str}(k:Q (.bl (!(Builtin.Str.occurrences b a 0 b.length 1).isEmpty)) H):Va K false (.str a) (.str b) H Q:=.inr (.inl ⟨a,b,rfl,rfl,k⟩)
theorem i_bm {T:String}{r:V->List V->Hp->VK->Prop}{ts:TA}(k:te σ H λx H1=>tyV K T x H1/\ts σ H1 λxs H2=>r x xs H2 Q):tBM K T r te ts σ H Q:=k
theorem i_tyS {z:Str}{B:Prop}(k:B):tyV K "str" (.str z) H/\B:=⟨rfl,k⟩
theorem i_find {z y:Str}(k:Q (.int (Txt.find z y)) H):ao3 (.str z) [.str y] H Q:=⟨z,y,rfl,rfl,k⟩
theorem i_bm0 {T:String}{r:V->List V->Hp->VK->Prop}(k:te σ H λx H1=>tyV K T x H1/\r x [] H1 Q):tBM0 K T r te σ H Q:=k
theorem i_call {sp:Sp}{E:XK}{ts:TA}(k:ts σ H λvs H1=>sp (vs++[]) H1 Q E):W4 sp [] E ts σ H Q:=k
theorem i_cb {r:List V->Hp->VK->Prop}{ts:TA}(k:ts σ H λvs H1=>r vs H1 Q):tCB r ts σ H Q:=k
theorem i_cons {tr:TA}{R:List V->Hp->Prop}(k:ta σ H λx H1=>tr σ H1 λxs H2=>R (x :: xs) H2):aa3 ta tr σ H R:=k
theorem i_nil {R:List V->Hp->Prop}(k:R [] H):aq1 σ H R:=k
theorem i_tup {ts:TA}(k:ts σ H λxs H1=>aj1 xs H1 Q):aq7 ts σ H Q:=k
theorem i_lst {ts:TA}(k:ts σ H λxs H1=>aa7 xs H1 Q):ar4 ts σ H Q:=k
theorem Ad {xs:List V}(h:xs.length<=sizeLine)(k:∀ p H',H p=none->Same H H'->H' p=some (.tup xs)->Q (.ref p) H'):aj1 xs H Q:=⟨h,λp hp=>k p _ hp (Same.upd hp) Aa⟩
theorem Ck {xs:List V}(h:xs.length<=sizeLine)(k:∀ p H',H p=none->Same H H'->H' p=some (.lst xs)->Q (.ref p) H'):aa7 xs H Q:=⟨h,λp hp=>k p _ hp (Same.upd hp) Aa⟩
theorem ae5 (k:∀ p H',H p=none->Same H H'->H' p=some (.dK [])->Q (.ref p) H'):Xi σ H Q:=λp hp=>k p _ hp (Same.upd hp) Aa
theorem i_put {td ty tv:TE}(k:tv σ H λv H1=>td σ H1 λx H2=>ty σ H2 λy H3=>∃ a H4,x = .ref a/\DPut H3 a y v H4/\D.nx σ H4):Vj td ty tv D σ H:=k
theorem Ni {a:Addr}{kvs:List (Key×V)}{z:Str}{R:Hp->Prop}(h:H a=some (.dK kvs))(hl:kvs.length<1000)(k:∀ H',ExtBut a H H'->H' a=some (.dK (D9 kvs (Sum.inr z) v))->R H'):∃ b H4,V.ref a = .ref b/\DPut H b (.str z) v H4/\R H4:=
 ⟨a,_,rfl,DPut.k (k:=Sum.inr z) h (Ug (A2E hl)),k _ ExtBut.upd Aa⟩
theorem i_for {wi:TI}{g:TG}{tb:TS}(k:wi σ H λJ H1=>a25 g tb D σ J H1):as0 wi g tb D σ H:=k
theorem i_comp {m:Nat}{js:List Nat}{wi:TI}{g:TG}{tt:TT}(k:wi σ H λJ H1=>Og m js g tt te σ J H1 Q):a13 m js wi g tt te σ H Q:=k
theorem i_itS {z:Str}{R:It->Hp->Prop}(k:R (Its z) H):El K (.str z) H R:=.inr (.inr (.inl ⟨z,rfl,k⟩))
theorem Z6 {a:Addr}{xs:List V}{R:It->Hp->Prop}(h:SqL K H a xs)(k:R (Itl K a) H):El K (.ref a) H R:=.inl ⟨a,rfl,⟨xs,h⟩,k⟩
theorem Ww {a:Addr}{xs:List V}{R:It->Hp->Prop}(h:SqT K H a xs)(k:R (Itt K a) H):El K (.ref a) H R:=.inr (.inl ⟨a,rfl,⟨xs,h⟩,k⟩)
theorem an3 {a:Addr}{kvs:List (Key×V)}{R:It->Hp->Prop}(h:H a=some (.dK kvs))(k:∀ o,R (Itd a o kvs) (upd H a (.frz o (.dK kvs)))):El K (.ref a) H R:=.inr (.inr (.inr ⟨a,kvs,rfl,.inl ⟨h,k⟩⟩))
theorem al1 {a:Addr}{kvs:List (Key×V)}{o:Obj}{R:It->Hp->Prop}(h:H a=some (.frz o (.dK kvs)))(k:R (Itd a o kvs) H):El K (.ref a) H R:=.inr (.inr (.inr ⟨a,kvs,rfl,.inr ⟨o,h,k⟩⟩))
theorem i_rng1 {ts:TA}{R:It->Hp->Prop}(k:ts σ H λvs H1=>ai5 vs H1 R):a93 ts σ H R:=k
theorem Q4 {R:It->Hp->Prop}(h:-(2 ^ 62)<=i/\i<2 ^ 62)(k:R (Itr 0 i.toNat) H):ai5 [V.int i] H R:=⟨i,rfl,h.1,h.2,k⟩
theorem i_rng2 {ts:TA}{R:It->Hp->Prop}(k:ts σ H λvs H1=>ap0 vs H1 R):am8 ts σ H R:=k
theorem i_iany {R:It->Hp->Prop}(k:te σ H λx H1=>El K x H1 R):ao5 K te σ H R:=k
theorem a86 {trs:List (TE×TE)}(k:∀ p H1,H p=none->Same H H1->H1 p=some (.dK [])->Je trs σ H1 λps H2=>Xn p ps H2 Q):ac4 trs σ H Q:=λp hp=>k p _ hp (Same.upd hp) Aa
theorem i_pair {tk tv:TE}{r:List (TE×TE)}{R:List (V×V)->Hp->Prop}(k:tk σ H λx H1=>tv σ H1 λy H2=>Je r σ H2 λps H3=>R ((x,y) :: ps) H3):Je ((tk,tv) :: r) σ H R:=k
theorem Zf {p:Addr}{ps:List (V×V)}(kvs:List (Key×V))(h:H p=some (.dK []))(e:ps=kvs.map (λkv=>(kV kv.1,kv.2)))(hl:kvs.length<=15)(k:∀ H',ExtBut p H H'->H' p=some (.dK (Cz [] kvs))->Q (.ref p) H'):Xn p ps H Q:=⟨h,kvs,e,hl,k _ ExtBut.upd Aa⟩
theorem i_pair0 {R:List (V×V)->Hp->Prop}(k:R [] H):Je [] σ H R:=k
end
theorem Ki {c A B:Prop}[Decidable c](h1:c->A)(h2:¬ c->B):if decide c=true then A else B:=by
 by_cases h:c
 . rw[A0Q (A0U h)];exact h1 h
 rw[A0L (by rw[A0R h];exact A0B)];exact h2 h
theorem a00 {c A B:Prop}[Decidable c](h1:¬ c->A)(h2:c->B):if(!decide c)=true then A else B:=by
 by_cases h:c
 . rw[A0U h,A0L nofun];exact h2 h
 rw[A0R h,A0Q nofun];exact h1 h
theorem am6 {b:Bool}{A B:Prop}(h1:b=false->A)(h2:b=true->B):if(!b)=true then A else B:=by
 cases b
 . exact h1 rfl
 exact h2 rfl
theorem iteNT {A B:Prop}(h:B):if(!true)=true then A else B:=h
theorem iteNF {A B:Prop}(h:A):if(!false)=true then A else B:=h
theorem A5 {n:Nat}(h:n<=1000000):n<=sizeLine:=by rw[A11];omega
def Dl (J:It)(xs:List V)(G:Hp->Prop):Prop:=
 ∀ i H,G H->(i<xs.length->J.go i H)/\(xs.length<=i->J.stop i H)/\∀ x H',i<xs.length->J.yld i H x H'->H'=H/\xs[i]? = some x
theorem Vc (z:Str):Dl (Its z) (z.cps.toList.map λc=>.str ⟨#[c]⟩) λ_=>True:=by
 intro i H _;refine⟨λh=>?_,λh=>?_,λx H' _ h=>?_⟩
 . show i<z.cps.size;simpa using h
 . show z.cps.size<=i;simpa using h
 obtain⟨e,c,hc,rfl⟩:=h;refine⟨e,?_⟩;rw[A0G,A26,hc];rfl
theorem Jg {K:W.Frag}{a:Addr}{xs:List V}:Dl (Itl K a) xs λH=>SqL K H a xs:=by intro i H g;refine⟨λh=>⟨xs,xs[i],g,A03 h⟩,λh=>⟨xs,g,h⟩,λx H' _ h=>⟨h.1,h.2 xs g⟩⟩
theorem Il {K:W.Frag}{a:Addr}{xs:List V}:Dl (Itt K a) xs λH=>SqT K H a xs:=by intro i H g;refine⟨λh=>⟨xs,xs[i],g,A03 h⟩,λh=>⟨xs,g,h⟩,λx H' _ h=>⟨h.1,h.2 xs g⟩⟩
theorem Mu {a:Addr}{o:Obj}{kvs:List (Key×V)}:Dl (Itd a o kvs) (kvs.map λkv=>kV kv.1) λH=>H a=some (.frz o (.dK kvs)):=by intro i H g;rw[A05];refine⟨λh=>⟨g,h⟩,λh=>⟨g,h⟩,λx H' _ h=>?_⟩;obtain⟨e,kv,h1,h2⟩:=h;exact⟨e,by rw[A0G,h1,h2];rfl⟩
theorem Ex {lo:Int}{n:Nat}:Dl (Itr lo n) ((List.range n).map λ(i:Nat)=>V.int (lo+(i:Int))) λ_=>True:=by
 intro i H _;refine⟨λh=>?_,λh=>?_,λx H' hi h=>?_⟩
 . show i<n;simpa using h
 . show n<=i;simpa using h
 obtain⟨e,hx⟩:=h;refine⟨e,?_⟩;have hi':i<n:=by simpa using hi
 rw[A0G,List.getElem?_range hi',hx];rfl
theorem Wu {J:It}{xs:List V}{G:Hp->Prop}{g:TG}{tb:TS}{D:Ends}{σ:St}{H:Hp}(hw:Dl J xs G)(Pv:Nat->St->Hp->Prop)(h0:Pv 0 σ H)(hG:∀ i σ H,Pv i σ H->G H)
  (hs:∀ i x σ H,xs[i]? = some x->Pv i σ H->g x σ H fun σ2 H2=>tb {D with nx:=Pv (i+1),ct:=Pv (i+1),bk:=D.nx} σ2 H2) (hd:∀ σ H,Pv xs.length σ H->D.nx σ H) :
  ∃ W:Nat->Nat->St->Hp->Prop,(∃ m,W 0 m σ H)/\∀ i m σ H,W i m σ H ->
   (J.stop i H/\D.nx σ H)\/(J.go i H/\∃ N:St->Hp->Prop,(∀ σ' H',N σ' H'->∃ m',m'<m/\W (i+1) m' σ' H')/\∀ x H',J.yld i H x H'->g x σ H' fun σ2 H2=>tb {D with nx:=N,ct:=N,bk:=D.nx} σ2 H2):=by
 refine⟨λi m σ H=>m=xs.length-i/\i<=xs.length/\Pv i σ H,⟨xs.length,by simp,Nat.zero_le _,h0⟩,?_⟩;rintro i m σ H ⟨rfl,hi,p⟩;obtain⟨w1,w2,w3⟩:=hw i H (hG i σ H p)
 by_cases hlt:i<xs.length
 . refine .inr ⟨w1 hlt,Pv (i+1),fun σ' H' p'=>⟨xs.length-(i+1),by omega,rfl,hlt,p'⟩,λx H' y=>?_⟩;obtain⟨e,hx⟩:=w3 x H' hlt y;subst e;exact hs i x σ _ hx p
 have e:i=xs.length:=by omega
 subst e;exact .inl ⟨w2 (A0A _),hd σ H p⟩
def CN (p:Addr)(n:Nat)(Pv:Nat->List V->Hp->Prop)(i:Nat):Hp->Prop:=λH'=>i+1<=n/\∃ acc,H' p=some (.lst acc)/\acc.length<=i+1/\Pv (i+1) acc H'
theorem a31 {p:Addr}{n:Nat}{Pv:Nat->List V->Hp->Prop}{i:Nat}{H:Hp}{acc:List V}{y:V}(hn:n<=1000000)(hi:i<n)(hl:acc.length<=i)(e:H p=some (.lst acc))(k:∀ H',ExtBut p H H'->H' p=some (.lst (acc++[y]))->Pv (i+1) (acc++[y]) H') :
  ∃ acc,H p=some (.lst acc)/\acc.length<sizeLine/\CN p n Pv i (upd H p (.lst (acc++[y]))):=
 ⟨acc,e,by rw[A11];omega,hi,acc++[y],Aa,by rw[A0H,A1F];omega,k _ ExtBut.upd Aa⟩
theorem S0 {p:Addr}{n:Nat}{Pv:Nat->List V->Hp->Prop}{i:Nat}{H:Hp}{acc:List V}(hi:i<n)(hl:acc.length<=i)(e:H p=some (.lst acc))(k:Pv (i+1) acc H):CN p n Pv i H:=⟨hi,acc,e,by omega,k⟩
theorem T9 {J:It}{xs:List V}{G:Hp->Prop}{g:TG}{tt:TT}{te:TE}{σ:St}{H:Hp}{Q:VK}{p:Addr}{k:Nat}{js:List Nat}(hw:Dl J xs G)(hp:H p=none)(Pv:Nat->List V->Hp->Prop)
  (h0:∀ H',Same H H'->H' p=some (.lst [])->Pv 0 [] H') (hG:∀ i acc H,Pv i acc H->G H)
  (hs:∀ i x acc H,xs[i]? = some x->i<xs.length->acc.length<=i->H p=some (.lst acc)->Pv i acc H->g x (List.replicate k none++N4 σ js) H fun σ2 H2=>tt σ2 H2 λb H3=>if b=true then te σ2 H3 λy H4=>∃ acc,H4 p=some (.lst acc)/\acc.length<sizeLine/\CN p xs.length Pv i (upd H4 p (.lst (acc++[y]))) else CN p xs.length Pv i H3)
  (hd:∀ acc H,H p=some (.lst acc)->acc.length<=xs.length->Pv xs.length acc H->Q (.ref p) H) :
  ∃ W:Nat->Nat->Hp->Prop,(∃ m,W 0 m (upd H p (.lst [])))/\∀ i m H,W i m H ->
   (J.stop i H/\Q (.ref p) H)\/(J.go i H/\∃ N:Hp->Prop,(∀ H',N H'->∃ m',m'<m/\W (i+1) m' H') /\
    ∀ x H',J.yld i H x H'->g x (List.replicate k none++N4 σ js) H' fun σ2 H2=>tt σ2 H2 λb H3=>
     if b=true then te σ2 H3 λy H4=>∃ acc,H4 p=some (.lst acc)/\acc.length<sizeLine/\N (upd H4 p (.lst (acc++[y]))) else N H3):=by
 refine⟨λi m H=>m=xs.length-i/\i<=xs.length/\∃ acc,H p=some (.lst acc)/\acc.length<=i/\Pv i acc H,⟨xs.length,by simp,Nat.zero_le _,[],Aa,Nat.le_refl _,h0 _ (Same.upd hp) Aa⟩,?_⟩;rintro i m H ⟨rfl,hi,acc,hacc,hl,q⟩;obtain⟨w1,w2,w3⟩:=hw i H (hG i acc H q)
 by_cases hlt:i<xs.length
 . refine .inr ⟨w1 hlt,CN p xs.length Pv i,λH' ⟨h1,h2⟩=>⟨xs.length-(i+1),by omega,rfl,h1,h2⟩,λx H' y=>?_⟩;obtain⟨e,hx⟩:=w3 x H' hlt y;subst e;exact hs i x acc _ hx hlt hl hacc q
 have e:i=xs.length:=by omega
 subst e;exact .inl ⟨w2 (A0A _),hd acc H hacc hl q⟩
def ac9 (p:Addr)(N:Hp->Prop):VK:=λy H4=>∃ acc,H4 p=some (.lst acc)/\acc.length<sizeLine/\N (upd H4 p (.lst (acc++[y])))
theorem Gf {J:It}{xs:List V}{G:Hp->Prop}{g:TG}{tt:TT}{te:TE}{σ:St}{H:Hp}{Q:VK}{k:Nat}{js:List Nat}(hw:Dl J xs G)(Pv:Addr->Nat->List V->Hp->Prop)
  (h0:∀ p H',H p=none->Same H H'->H' p=some (.lst [])->Pv p 0 [] H') (hG:∀ p i acc H,Pv p i acc H->G H)
  (hs:∀ p i x acc H1,H p=none->xs[i]? = some x->i<xs.length->acc.length<=i->H1 p=some (.lst acc)->Pv p i acc H1->g x (List.replicate k none++N4 σ js) H1 fun σ2 H2=>tt σ2 H2 λb H3=>if b=true then te σ2 H3 (ac9 p (CN p xs.length (Pv p) i)) else CN p xs.length (Pv p) i H3)
  (hd:∀ p acc H1,H p=none->H1 p=some (.lst acc)->acc.length<=xs.length->Pv p xs.length acc H1->Q (.ref p) H1):Og k js g tt te σ J H Q:=λp hp=>
 T9 hw hp (Pv p) (λH' e h=>h0 p H' hp e h) (hG p) (λi x acc H1 h1 h2 h3 h4 h5=>hs p i x acc H1 hp h1 h2 h3 h4 h5) λacc H1 h1 h2 h3=>hd p acc H1 hp h1 h2 h3
theorem Pu {p:Addr}{n:Nat}{Pv:Nat->List V->Hp->Prop}{i:Nat}{H:Hp}{acc:List V}{y:V}(hn:n<=1000000)(hi:i<n)(hl:acc.length<=i)(e:H p=some (.lst acc))(k:∀ H',ExtBut p H H'->H' p=some (.lst (acc++[y]))->Pv (i+1) (acc++[y]) H') :
  ac9 p (CN p n Pv i) y H:=a31 hn hi hl e k
theorem Sm {J:It}{xs:List V}{G:Hp->Prop}{g:TG}{tt:TT}{te:TE}{σ:St}{H:Hp}{Q:VK}{k:Nat}{js:List Nat}(hw:Dl J xs G)(t:V->Bool)(f:V->V)(hz:xs.length<=1000000)(hG:∀ H',Same H H'->G H')
  (hs:∀(i:Nat) x H1 (R:VK) (R':Hp->Prop),xs[i]? = some x->Same H H1->(t x=true->R (f x) H1)->(t x=false->R' H1)->g x (List.replicate k none++N4 σ js) H1 fun σ2 H2=>tt σ2 H2 λb H3=>if b=true then te σ2 H3 R else R' H3)
  (hd:∀ p H',H p=none->Same H H'->H' p=some (.lst ((xs.filter t).map f))->Q (.ref p) H'):Og k js g tt te σ J H Q:=by
 refine Gf hw (λp i acc H1=>Same H H1/\acc=((xs.take i).filter t).map f) (λp H' hp e h=>⟨e,by simp⟩) (λp i acc H1 h=>hG H1 h.1) (λp i x acc H1 hp hx hi hl ha ⟨e,hacc⟩=>?_) λp acc H1 hp ha hl ⟨e,hacc⟩=>?_
 . have ht:xs.take (i+1)=xs.take i++[x]:=by rw[A10,hx];rfl
   refine hs i x H1 _ _ hx e (λh=>?_) λh=>?_
   . refine Pu hz hi hl ha λH' e' h'=>⟨λb o hb=>e' b o (ne_of_none hb hp) (e b o hb),?_⟩;rw[ht,A36,A19,hacc];simp[h]
   refine S0 hi hl ha ⟨e,?_⟩;rw[ht,A36,A19,hacc];simp[h]
 refine hd p H1 hp e ?_;rw[ha,hacc,A1E]
theorem a38 {z:Str}{i:Nat}{v:V}(h:(z.cps.toList.map λc=>V.str ⟨#[c]⟩)[i]? = some v):∃ c,v = .str ⟨#[c]⟩/\c∈z.cps.toList:=by
 rw[A0G] at h
 cases e:z.cps.toList[i]? with
 |none=>rw[e] at h;cases h
 |some c=>rw[e] at h;cases h;exact⟨c,rfl,A06 e⟩
theorem J4 {α:Type}(xs:List α):xs.filter (λ_=>true)=xs:=by simp
theorem Lz {J:It}{xs:List V}{G:Hp->Prop}{g:TG}{te:TE}{σ:St}{H:Hp}{Q:VK}{k:Nat}{js:List Nat}(hw:Dl J xs G)(f:V->V)(hz:xs.length<=1000000)(hG:∀ H',Same H H'->G H')
  (hs:∀(i:Nat) x H1 (R:VK),xs[i]? = some x->Same H H1->R (f x) H1->g x (List.replicate k none++N4 σ js) H1 fun σ2 H2=>te σ2 H2 R)
  (hd:∀ p H',H p=none->Same H H'->H' p=some (.lst (xs.map f))->Q (.ref p) H'):Og k js g Uv te σ J H Q:=
 Sm hw (λ_=>true) f hz hG (λi x H1 R R' hx e h _=>by
  have:=hs i x H1 R hx e (h rfl);show g x _ H1 fun σ2 H2=>if true=true then te σ2 H2 R else R' H2
  simpa using this) λp H' hp e h=>hd p H' hp e (by rw[h,J4])
theorem Tf {J:It}{xs:List V}{G:Hp->Prop}{g:TG}{tb:TS}{D:Ends}{σ:St}{H:Hp}(hw:Dl J xs G)(Pv:Nat->St->Hp->Prop)(h0:Pv 0 σ H)(hG:∀ i σ H,Pv i σ H->G H)
  (hs:∀ i x σ H,xs[i]? = some x->i<xs.length->Pv i σ H->g x σ H fun σ2 H2=>tb {D with nx:=Pv (i+1),ct:=Pv (i+1),bk:=D.nx} σ2 H2) (hd:∀ σ H,Pv xs.length σ H->D.nx σ H):a25 g tb D σ J H:=
 Wu hw Pv h0 hG (λi x σ H hx=>hs i x σ H hx (A02.mp hx).1) hd
section
variable {X:Cx}{K:W.Frag}
theorem B2 (hK:X.K=K:=by ac_nf):OpR X (binaryOp .Add) (Qk K):=hK ▸ Z0
theorem B5 (hq:QA X.A)(hK:X.K=K:=by ac_nf):OpR X (compareOp .Eq) (ak9 K):=hK ▸ a91 hq
theorem Gd (hq:QA X.A)(hK:X.K=K:=by ac_nf):OpR X (compareOp .NotEq) (aj6 K):=hK ▸ ai4 hq
theorem Ga (hq:QA X.A)(hK:X.K=K:=by ac_nf):OpR X (compareOp .In) (Va K false):=hK ▸ aa1 hq
theorem Uq (hq:QA X.A)(hK:X.K=K:=by ac_nf):OpR X (compareOp .NotIn) (Va K true):=hK ▸ S4 hq
theorem A6 (hu:X.A.units+1<cLine)(hK:X.K=K:=by ac_nf):IxR X (Qx K):=hK ▸ aj2 hu
theorem V8 (hK:X.K=K:=by ac_nf):SlR X (aa6 K):=hK ▸ sl_A
theorem An (hK:X.K=K:=by ac_nf):CallR X (.builtin "len") (Mz K):=hK ▸ Uu
theorem Ap (hK:X.K=K:=by ac_nf):CallR X (.builtin "isinstance") (Dz K):=hK ▸ Nx
theorem Kr (hK:X.K=K:=by ac_nf):CallR X (.type "list") (Pt K):=hK ▸ Qo
theorem En (hc:X.calm=true)(hK:X.K=K:=by ac_nf):CallR X (.builtin "all") (a12 K):=hK ▸ Tn hc
theorem Jd (hc:X.calm=true)(hK:X.K=K:=by ac_nf):CallR X (.builtin "any") (a45 K):=hK ▸ Sr hc
theorem Bp {tg:Expr}(hu:X.A.units+1<cLine){l:Expr}{tl:TE}(hl:PE X l tl)(hK:X.K=K:=by ac_nf):PI X tg l (ao5 K tl):=hK ▸ ae6 hu hl
theorem Gj {es:List Expr}{k:Nat}{t:TGs}{n:Nat}{pos:Pos}(hc:X.calm=true)(h:PGs X es t)(hK:X.K=K:=by ac_nf)
  (hn:(assignEach es X.env).length=n:=by ac_nf) (hst:(assignEach es X.env).findIdx? (·.1)=none:=by ac_nf):PG X (.Tuple es k pos) (a73 K n t):=hK ▸ ag2 hc h hn hst
variable {o e:Expr}{es:List Expr}{to:TE}{t:TA}{name:Str}{apos cpos:Pos}{T id:String}{r:V->List V->Hp->VK->Prop}
theorem Kc (pa:PlainAttrs T)(slot:Slot T name id)(hty:typeOf (.builtin id)=pure (.type "method_descriptor"))(hm:MtR X id r)(ho:PE X o to)(ha:PA X (e :: es) t)(hK:X.K=K:=by ac_nf)
  (hbase:attributeBase o name X.env (eval o X.env)=eval o X.env:=by ac_nf)
  (hfew:((backTo cpos (starEach (e :: es) X.env)).all (λx=>!x.1)&&(backToKw cpos (keywordEach [] X.env)).all (λx=>x.1.isSome)
   && decide ((e :: es).length+([]:List Keyword).length+(if([]:List Keyword).isEmpty then 0 else 1)<30))=true:=by ac_nf)
  (hline:(apos.endLine==cpos.line)=true:=by ac_nf) (hs:starEach (e :: es) X.env=(false,eval e X.env) :: starEach es X.env:=by ac_nf) (hplain:(backTo cpos (starEach es X.env)).any (·.1)=false:=by ac_nf) :
  PE X (.Call (.Attribute o name apos) (e :: es) [] cpos) (tBM K T r to t):=hK ▸ an7 pa slot hty hm ho ha hbase hfew hline hs hplain
end
def Fz (H H':Hp):Prop:=∀ a xs,Rd H a (.tup xs)->Rd H' a (.tup xs)
theorem Fz.refl (H:Hp):Fz H H:=λ_ _ h=>h
theorem Fz.trans {H H1 H2:Hp}(a:Fz H H1)(b:Fz H1 H2):Fz H H2:=λc xs h=>b c xs (a c xs h)
theorem Same.fz {H H':Hp}(e:Same H H'):Fz H H':=λa xs h=>by
 rcases h with h|⟨o,h⟩
 . exact .inl (e _ _ h)
 exact .inr ⟨o,e _ _ h⟩
theorem Xt {p:Addr}{H H':Hp}(e:ExtBut p H H')(hp:∀ xs,¬ Rd H p (.tup xs)):Fz H H':=λa xs h=>by
 have n:a≠p:=λq=>hp xs (q ▸ h);rcases h with h|⟨o,h⟩
 . exact .inl (e _ _ n h)
 exact .inr ⟨o,e _ _ n h⟩
theorem ExtBut.fzL {p:Addr}{H H':Hp}{l:List V}(e:ExtBut p H H')(hp:H p=some (.lst l)):Fz H H':=Xt e λxs h=>by
 rcases h with h|⟨o,h⟩
 . rw[hp] at h;cases h
 rw[hp] at h;cases h
theorem ExtBut.fzD {p:Addr}{H H':Hp}{l:List (Key×V)}(e:ExtBut p H H')(hp:H p=some (.dK l)):Fz H H':=Xt e λxs h=>by
 rcases h with h|⟨o,h⟩
 . rw[hp] at h;cases h
 rw[hp] at h;cases h
theorem Fz.seq {K:W.Frag}{H H':Hp}(e:Fz H H'){a:Addr}{xs:List V}(h:SqT K H a xs):SqT K H' a xs:=by
 rcases h with h|h
 . exact .inl (e _ _ h)
 exact .inr h
mutual
def frz:PyData->Bool
 |.tuple ds=>Ql ds
 |.list _=>false
 |.dict _=>false
 |_=>true
def Ql:List PyData->Bool
 | []=>true
 |d :: ds=>frz d&&Ql ds
end
mutual
theorem Is.fz {K:W.Frag}{H H':Hp}(e:Fz H H'):∀(d:PyData) (v:V),frz d=true->Is K H d v->Is K H' d v
 |.none,_,_,h=>by simp only[Is] at h ⊢;exact h
 |.bool _,_,_,h=>by simp only[Is] at h ⊢;exact h
 |.int _,_,_,h=>by simp only[Is] at h ⊢;exact h
 |.str _,_,_,h=>by simp only[Is] at h ⊢;exact h
 |.list ds,v,hf,_=>by simp[frz] at hf
 |.tuple ds,v,hf,h=>by simp only[Is] at h ⊢;obtain⟨a,xs,e1,e2,e3⟩:=h;exact⟨a,xs,e1,e.seq e2,IsL.fz e ds xs (by simpa only[frz] using hf) e3⟩
 |.dict _,_,_,h=>by simp only[Is] at h
theorem IsL.fz {K:W.Frag}{H H':Hp}(e:Fz H H'):∀(ds:List PyData) (vs:List V),Ql ds=true->IsL K H ds vs->IsL K H' ds vs
 | [],_,_,h=>by simp only[IsL] at h ⊢;exact h
 |d :: ds,vs,hf,h=>by simp only[IsL] at h ⊢;simp only[Ql,Bool.and_eq_true] at hf;obtain⟨v,r,e1,e2,e3⟩:=h;exact⟨v,r,e1,Is.fz e d v hf.1 e2,IsL.fz e ds r hf.2 e3⟩
end
section
variable {K:W.Frag}{H H':Hp}
theorem IsL.length:∀ {ds:List PyData} {vs:List V},IsL K H ds vs->ds.length=vs.length
 | [],_,h=>by simp only[IsL] at h;subst h;rfl
 |d :: ds,vs,h=>by simp only[IsL] at h;obtain⟨v,r,rfl,_,e3⟩:=h;simp only[List.length_cons,IsL.length e3]
theorem IsL.get:∀ {ds:List PyData} {vs:List V} {i:Nat} {x:V},IsL K H ds vs->vs[i]? = some x->∃ d,ds[i]? = some d/\Is K H d x
 | [],_,_,_,h,e=>by simp only[IsL] at h;subst h;simp at e
 |d :: ds,vs,i,x,h,e=>by
   simp only[IsL] at h;obtain⟨v,r,rfl,e2,e3⟩:=h
   cases i with
   |zero=>simp at e;subst e;exact⟨d,rfl,e2⟩
   |succ i=>obtain⟨d',h1,h2⟩:=IsL.get (i:=i) e3 (by simpa using e);exact⟨d',by simpa using h1,h2⟩
theorem IsL.at:∀ {ds:List PyData} {vs:List V} {i:Nat} {d:PyData},IsL K H ds vs->ds[i]? = some d->∃ x,vs[i]? = some x/\Is K H d x
 | [],_,_,_,h,e=>by simp at e
 |d :: ds,vs,i,d',h,e=>by
   simp only[IsL] at h;obtain⟨v,r,rfl,e2,e3⟩:=h
   cases i with
   |zero=>simp at e;subst e;exact⟨v,rfl,e2⟩
   |succ i=>obtain⟨x,h1,h2⟩:=IsL.at (i:=i) e3 (by simpa using e);exact⟨x,by simpa using h1,h2⟩
theorem IsL.append:∀ {ds es:List PyData} {vs us:List V},IsL K H ds vs->IsL K H es us->IsL K H (ds++es) (vs++us)
 | [],_,_,_,h,g=>by simp only[IsL] at h;subst h;exact g
 |d :: ds,es,vs,us,h,g=>by simp only[IsL] at h;obtain⟨v,r,rfl,e2,e3⟩:=h;simp only[List.cons_append,IsL];exact⟨v,_,rfl,e2,IsL.append e3 g⟩
theorem IsL.one {d:PyData}{v:V}(h:Is K H d v):IsL K H [d] [v]:=by simp only[IsL];exact⟨v,[],rfl,h,rfl⟩
theorem IsL.nil:IsL K H [] []:=by simp only[IsL]
theorem IsL.cons {d:PyData} {v:V} {ds:List PyData} {vs:List V} (h:Is K H d v) (g:IsL K H ds vs):IsL K H (d :: ds) (v :: vs):=by simp only[IsL];exact⟨v,vs,rfl,h,g⟩
theorem IsL.take:∀ {ds:List PyData} {vs:List V} (n:Nat),IsL K H ds vs->IsL K H (ds.take n) (vs.take n)
 |ds,vs,0,h=>by simp only[List.take_zero];exact .nil
 | [],vs,n+1,h=>by simp only[IsL] at h;subst h;exact .nil
 |d :: ds,vs,n+1,h=>by simp only[IsL] at h;obtain⟨v,r,rfl,e2,e3⟩:=h;exact .cons e2 (IsL.take n e3)
theorem IsL.drop:∀ {ds:List PyData} {vs:List V} (n:Nat),IsL K H ds vs->IsL K H (ds.drop n) (vs.drop n)
 |ds,vs,0,h=>h
 | [],vs,n+1,h=>by simp only[IsL] at h;subst h;exact .nil
 |d :: ds,vs,n+1,h=>by simp only[IsL] at h;obtain⟨v,r,rfl,e2,e3⟩:=h;exact IsL.drop n e3
theorem IsL.str_eq:∀ {ns:List Str} {vs:List V},IsL K H (ns.map PyData.str) vs->vs=ns.map V.str
 | [],vs,h=>by simp only[List.map_nil,IsL] at h;exact h
 |n :: ns,vs,h=>by simp only[List.map_cons,IsL,Is] at h;obtain⟨v,r,rfl,rfl,e3⟩:=h;rw[IsL.str_eq e3];rfl
theorem Is.tup {ds:List PyData}{v:V}(h:Is K H (.tuple ds) v):∃ a xs,v = .ref a/\SqT K H a xs/\IsL K H ds xs:=by simpa only[Is] using h
theorem Is.of_tup {ds:List PyData}{a:Addr}{xs:List V}(h:SqT K H a xs)(g:IsL K H ds xs):Is K H (.tuple ds) (.ref a):=by simp only[Is];exact⟨a,xs,rfl,h,g⟩
theorem Is.of_lst {ds:List PyData}{a:Addr}{xs:List V}(h:SqL K H a xs)(g:IsL K H ds xs):Is K H (.list ds) (.ref a):=by simp only[Is];exact⟨a,xs,rfl,h,g⟩
theorem Is.str {z:Str}{v:V}(h:Is K H (.str z) v):v = .str z:=by simpa only[Is] using h
theorem ap6 {z:Bool}:Is K H (.bool z) (.bl z):=by simp only[Is]
end
def nmD (ns:List Str):PyData:=.tuple (ns.map PyData.str)
def prD (p:Str×Str):PyData:=.tuple [.str p.1,.str p.2]
def psD (ps:List (Str×Str)):PyData:=.tuple (ps.map prD)
def hfD (ns:List Str)(ps:List (Str×Str)):PyData:=.tuple [nmD ns,psD ps]
theorem Jn:∀ ns:List Str,Ql (ns.map PyData.str)=true
 | []=>rfl
 |n :: ns=>by simp only[List.map_cons,Ql,frz,Jn ns,Bool.and_self]
theorem Xx (ns:List Str):frz (nmD ns)=true:=by simp only[nmD,frz,Jn]
theorem ai0 (p:Str×Str):frz (prD p)=true:=by simp[prD,frz,Ql]
theorem Ky:∀ ps:List (Str×Str),Ql (ps.map prD)=true
 | []=>rfl
 |n :: ns=>by simp only[List.map_cons,Ql,ai0,Ky ns,Bool.and_self]
theorem ag9 (ps:List (Str×Str)):frz (psD ps)=true:=by simp only[psD,frz,Ky]
theorem aj3 (ns:List Str)(ps:List (Str×Str)):frz (hfD ns ps)=true:=by simp only[hfD,frz,Ql,Xx,ag9,Bool.and_self]
section
variable {K:W.Frag}{H H':Hp}
theorem Is.nm {ns:List Str}{v:V}(h:Is K H (nmD ns) v):∃ a,v = .ref a/\SqT K H a (ns.map V.str):=by obtain⟨a,xs,rfl,h1,h2⟩:=Is.tup h;exact⟨a,rfl,by rw[<- IsL.str_eq h2];exact h1⟩
theorem Is.pr {p:Str×Str}{v:V}(h:Is K H (prD p) v):∃ a,v = .ref a/\SqT K H a [.str p.1,.str p.2]:=by obtain⟨a,xs,rfl,h1,h2⟩:=Is.tup h;simp only[IsL,Is] at h2;obtain⟨_,_,rfl,rfl,_,_,rfl,rfl,rfl⟩:=h2;exact⟨a,rfl,h1⟩
theorem Is.hf {ns:List Str}{ps:List (Str×Str)}{v:V}(h:Is K H (hfD ns ps) v):∃ a x y,v = .ref a/\SqT K H a [x,y]/\Is K H (nmD ns) x/\Is K H (psD ps) y:=by obtain⟨a,xs,rfl,h1,h2⟩:=Is.tup h;simp only[IsL] at h2;obtain⟨x,_,rfl,hx,y,_,rfl,hy,rfl⟩:=h2;exact⟨a,x,y,rfl,h1,hx,hy⟩
theorem Is.nm_fz {ns:List Str}{v:V}(h:Is K H (nmD ns) v)(e:Fz H H'):Is K H' (nmD ns) v:=Is.fz e _ _ (Xx ns) h
theorem Is.hf_fz {ns:List Str}{ps:List (Str×Str)}{v:V}(h:Is K H (hfD ns ps) v)(e:Fz H H'):Is K H' (hfD ns ps) v:=Is.fz e _ _ (aj3 ns ps) h
variable {σ:St}{Q:VK}{x v:V}{i:Int}
theorem Bu {a:Addr}{xs:List V}(h:SqT K H a xs)(e:atI xs i=some v)(k:Q v H):Qx K (.ref a) (.int i) H Q:=.inl (.inr (.inl ⟨a,xs,i,v,rfl,rfl,h,e,k⟩))
theorem ah0 {ns:List Str}{ps:List (Str×Str)}(h:Is K H (hfD ns ps) x)(k:∀ v,Is K H (nmD ns) v->Q v H):Qx K x (.int 0) H Q:=by obtain⟨a,u,w,rfl,h1,h2,h3⟩:=h.hf;exact Bu h1 rfl (k u h2)
theorem ab2 {ns:List Str}{ps:List (Str×Str)}(h:Is K H (hfD ns ps) x)(k:∀ v,Is K H (psD ps) v->Q v H):Qx K x (.int 1) H Q:=by obtain⟨a,u,w,rfl,h1,h2,h3⟩:=h.hf;exact Bu h1 rfl (k w h3)
theorem ah8 {p:Str×Str}(h:Is K H (prD p) x)(k:Q (.str p.1) H):Qx K x (.int 0) H Q:=by obtain⟨a,rfl,h1⟩:=h.pr;exact Bu h1 rfl k
theorem ab3 {p:Str×Str}(h:Is K H (prD p) x)(k:Q (.str p.2) H):Qx K x (.int 1) H Q:=by obtain⟨a,rfl,h1⟩:=h.pr;exact Bu h1 rfl k
theorem Mb {ds:List PyData}(h:Is K H (.tuple ds) x)(k:Q (.int ds.length) H):Mz K [x] H Q:=by obtain⟨a,xs,rfl,h1,h2⟩:=h.tup;rw[IsL.length h2] at k;exact .inl ⟨.ref a,_,rfl,.inr ⟨xs,h1,rfl⟩,k⟩
theorem af1 {ns:List Str}(h:Is K H (nmD ns) x)(k:Q (.int ns.length) H):Mz K [x] H Q:=Mb h (by rw[A05];exact k)
theorem Yo {ds:List PyData}{g:TG}{tb:TS}{D:Ends}(h:Is K H (.tuple ds) x)(hf:Ql ds=true)(Pv:Nat->St->Hp->Prop)(h0:Pv 0 σ H)(hG:∀ i σ' H',Pv i σ' H'->Fz H H')
  (hs:∀ i d v σ' H',ds[i]? = some d->Is K H' d v->Pv i σ' H'->g v σ' H' fun σ2 H2=>tb {D with nx:=Pv (i+1),ct:=Pv (i+1),bk:=D.nx} σ2 H2) (hd:∀ σ' H',Pv ds.length σ' H'->D.nx σ' H') :
  El K x H λJ H1=>a25 g tb D σ J H1:=by
 obtain⟨a,xs,rfl,h1,h2⟩:=h.tup;refine Ww h1 (Tf Il Pv h0 (λi σ' H' p=>(hG i σ' H' p).seq h1) (λi v σ' H' hx hi p=>?_) fun σ' H' p=>hd σ' H' (by rw[IsL.length h2];exact p));obtain⟨d,e1,e2⟩:=IsL.get (IsL.fz (hG i σ' H' p) ds xs hf h2) hx;exact hs i d v σ' H' e1 e2 p
theorem Xm {ns:List Str}{g:TG}{tb:TS}{D:Ends}(h:Is K H (nmD ns) x)(Pv:Nat->St->Hp->Prop)(h0:Pv 0 σ H)(hG:∀ i σ' H',Pv i σ' H'->Fz H H')
  (hs:∀ i z σ' H',ns[i]? = some z->Pv i σ' H'->g (.str z) σ' H' fun σ2 H2=>tb {D with nx:=Pv (i+1),ct:=Pv (i+1),bk:=D.nx} σ2 H2) (hd:∀ σ' H',Pv ns.length σ' H'->D.nx σ' H') :
  El K x H λJ H1=>a25 g tb D σ J H1:=
 Yo h (Jn ns) Pv h0 hG (λi d v σ' H' e h p=>by
  rw[A0G] at e
  cases hn:ns[i]? with
  |none=>rw[hn] at e;cases e
  |some z=>
    rw[hn] at e
    cases e;rw[h.str];exact hs i z σ' H' hn p) fun σ' H' p=>hd σ' H' (by rw[A05] at p;exact p)
theorem ac7 {ps:List (Str×Str)}{g:TG}{tb:TS}{D:Ends}(h:Is K H (psD ps) x)(Pv:Nat->St->Hp->Prop)(h0:Pv 0 σ H)(hG:∀ i σ' H',Pv i σ' H'->Fz H H')
  (hs:∀ i p v σ' H',ps[i]? = some p->Is K H' (prD p) v->Pv i σ' H'->g v σ' H' fun σ2 H2=>tb {D with nx:=Pv (i+1),ct:=Pv (i+1),bk:=D.nx} σ2 H2) (hd:∀ σ' H',Pv ps.length σ' H'->D.nx σ' H') :
  El K x H λJ H1=>a25 g tb D σ J H1:=
 Yo h (Ky ps) Pv h0 hG (λi d v σ' H' e h p=>by
  rw[A0G] at e
  cases hn:ps[i]? with
  |none=>rw[hn] at e;cases e
  |some z=>
    rw[hn] at e
    cases e;exact hs i z v σ' H' hn h p) fun σ' H' p=>hd σ' H' (by rw[A05] at p;exact p)
theorem Py {α:Type}(f:α->PyData)(hf:∀ a,frz (f a)=true):∀ xs:List α,Ql (xs.map f)=true
 | []=>rfl
 |x :: xs=>by simp only[List.map_cons,Ql,hf,Py f hf xs,Bool.and_self]
theorem Vd {α:Type}{J:It}{xs:List V}{G:Hp->Prop}{g:TG}{tt:TT}{te:TE}{Q:VK}{k:Nat}{js:List Nat}(hw:Dl J xs G)(as:List α)(hl:as.length=xs.length)(t:α->Bool)(f:α->PyData)(hf:∀ a,frz (f a)=true)(hz:xs.length<=1000000)(hG:∀ H',Same H H'->G H')
  (hs:∀(i:Nat) a v H1 (R:VK) (R':Hp->Prop),as[i]? = some a->xs[i]? = some v->Same H H1->(t a=true->∀ y H2,Same H1 H2->Is K H2 (f a) y->R y H2)->(t a=false->∀ H2,Same H1 H2->R' H2) ->
   g v (List.replicate k none++N4 σ js) H1 fun σ2 H2=>tt σ2 H2 λb H3=>if b=true then te σ2 H3 R else R' H3)
  (hd:∀ p ys H',H p=none->Same H H'->H' p=some (.lst ys)->IsL K H' ((as.filter t).map f) ys->Q (.ref p) H'):Og k js g tt te σ J H Q:=by
 refine Gf hw (λp i acc H1=>Same H H1/\IsL K H1 (((as.take i).filter t).map f) acc) (λp H' hp e h=>⟨e,by simp only[List.take_zero,List.filter_nil,List.map_nil];exact .nil⟩) (λp i acc H1 h=>hG H1 h.1) (λp i x acc H1 hp hx hi hl1 ha ⟨e,hacc⟩=>?_) λp acc H1 hp ha hl1 ⟨e,hacc⟩=>?_
 . have hi':i<as.length:=by omega
   obtain⟨a,hai⟩:∃ a,as[i]? = some a:=⟨as[i],A03 hi'⟩;have ht:as.take (i+1)=as.take i++[a]:=by rw[A10,hai];rfl
   refine hs i a x H1 _ _ hai hx e (λh y H2 e2 hy=>?_) λh H2 e2=>?_
   . refine Pu hz hi hl1 (e2 _ _ ha) λH' e' h'=>⟨λb o hb=>e' b o (ne_of_none hb hp) (e2 _ _ (e b o hb)),?_⟩;rw[ht,A36,A19];have fz:=e'.fzL (e2 _ _ ha);refine IsL.append (IsL.fz (e2.fz.trans fz) _ _ (Py f hf _) hacc) ?_;simp only[List.filter_cons,h,if_true,List.filter_nil,List.map_cons,List.map_nil];exact .one (Is.fz fz _ _ (hf a) hy)
   refine S0 hi hl1 (e2 _ _ ha) ⟨e.trans e2,?_⟩;rw[ht,A36,A19];simp only[List.filter_cons,h,Bool.false_eq_true,if_false,List.filter_nil,List.map_nil,List.append_nil];exact IsL.mono e2 _ _ hacc
 refine hd p acc H1 hp e ha ?_;rw[<- hl,A1E] at hacc;exact hacc
end
section
variable {X:Cx}{K:W.Frag}
def Yk:PyData->Bool
 |.list _=>true
 |.tuple _=>true
 |_=>false
mutual
theorem Is.noDict {H:Hp}:∀(d:PyData) (v:V),Is K H d v->d.hasDict=false
 |.none,_,h=>by simp only[PyData.hasDict]
 |.bool _,_,h=>by simp only[PyData.hasDict]
 |.int _,_,h=>by simp only[PyData.hasDict]
 |.str _,_,h=>by simp only[PyData.hasDict]
 |.list ds,v,h=>by simp only[Is] at h;obtain⟨a,xs,e1,e2,e3⟩:=h;simp only[PyData.hasDict];exact IsL.noDict ds xs e3
 |.tuple ds,v,h=>by simp only[Is] at h;obtain⟨a,xs,e1,e2,e3⟩:=h;simp only[PyData.hasDict];exact IsL.noDict ds xs e3
 |.dict _,_,h=>by simp only[Is] at h
theorem IsL.noDict {H:Hp}:∀(ds:List PyData) (vs:List V),IsL K H ds vs->PyData.hasDictAll ds=false
 | [],_,h=>by simp only[PyData.hasDictAll]
 |d :: ds,vs,h=>by simp only[IsL] at h;obtain⟨v,r,e1,e2,e3⟩:=h;simp only[PyData.hasDictAll,Is.noDict d v e2,IsL.noDict ds r e3,Bool.or_self]
end
structure Sh (d:PyData):Prop where
 dp:Yk d=true
 sh:d.showable=true
 fits:d.shown.length<=sizeLine
 deep:d.depth<=100
def ah7 (K:W.Frag):List V->Hp->VK->Prop:=λxs H Q=>ab1 xs H Q\/∃ x d,xs=[x]/\Is K H d x/\Sh d/\Q (.str d.shown) H
theorem i_reprKB {b:Bool}{H:Hp}{Q:VK}(k:Q (.str (if b then "True" else "False")) H):ah7 K [.bl b] H Q:=.inl (.inl ⟨b,rfl,k⟩)
def Q9 (z:Str)(n:Nat):Str:=⟨(List.replicate n z.cps).foldl (· ++ ·) #[]⟩
def ad7:R2:=λx y H Q=>∃ z n,x = .str z/\y = .int n/\2<=n/\n<=1000/\z.length<=1000/\0<z.length/\Q (.str (Q9 z n.toNat)) H
theorem a18:OpR X (binaryOp .Mult) ad7:=by
 intro pins s σ H x y v u Q I rx ry h;obtain⟨z,n,rfl,rfl,h1,h2,h3,h4,q⟩:=h;obtain⟨t,rfl⟩:=rx;obtain⟨t2,rfl⟩:=ry;have a1:¬ n<1:=by omega
 have a2:(n==1||z.length==0)=false:=by
  have e1:(n==1)=false:=by simp;omega
  have e2:(z.length==0)=false:=by simp;omega
  rw[e1,e2];rfl
 have hz:z.length*n.toNat<=1000000:=by have:z.length*n.toNat<=1000*1000:=Nat.mul_le_mul h3 (by omega);omega
 have hlen:(Q9 z n.toNat).length<=sizeLine:=by
  have e:∀(m:Nat) (a:Array Nat),((List.replicate m z.cps).foldl (· ++ ·) a).size=a.size+m*z.cps.size:=by
   intro m
   induction m with
   |zero=>intro a;simp
   |succ m ih=>intro a;rw[A1M,A4D,ih,Array.size_append,Nat.succ_mul];omega
  show((List.replicate n.toNat z.cps).foldl (· ++ ·) #[]).size<=sizeLine;rw[e];have e2:z.cps.size=z.length:=rfl;rw[e2,A11,A4F];simp;omega
 refine PySem.P.mul_str (by
   have b1:¬ n < -(2 ^ 63:Int):=by omega
   have b2:¬ n>=2 ^ 63:=by omega
   rw[A0R b1,A0R b2];rfl) (λ_ _=>?_) (λ_ _=>?_) ?_
 . have:(2 ^ 63-1:Int) / n>=1000:=by
    refine Int.le_ediv_of_mul_le (by omega) ?_;have:1000*n<=1000*1000:=by omega
    omega
   omega
 . have hz2:z.length*n.toNat<=sizeLine:=A5 hz;rw[A11] at hz2;unfold Builtin.Str.tooLong;simp[sizeLine_eq];omega
 rw[A0L a1,a2,A0L A0B];exact⟨hlen,.str _,H,I.kept λ_ _ e=>e,⟨_,rfl⟩,q⟩
def Z7:R2:=λx y H Q=>Yy x y H Q\/ad7 x y H Q
theorem Ct:OpR X (binaryOp .Mult) Z7:=op_mulA.or a18
theorem i_mulBI {i j:Int}{H:Hp}{Q:VK}(h:CMul i j)(k:Q (.int (i*j)) H):Z7 (.int i) (.int j) H Q:=.inl (ag4 h k)
theorem a09 {z:Str}{n:Int}{H:Hp}{Q:VK}(h:2<=n/\n<=1000/\z.length<=1000/\0<z.length)(k:Q (.str (Q9 z n.toNat)) H):Z7 (.str z) (.int n) H Q:=.inr ⟨z,n,rfl,rfl,h.1,h.2.1,h.2.2.1,h.2.2.2,k⟩
def rIs (neg:Bool):R2:=λx y H Q=>(y = .non/\Q (.bl (if neg then !decide (x = .non) else decide (x = .non))) H)\/∃ a b,x = .bl a/\y = .bl b/\Q (.bl (if neg then !(a==b) else a==b)) H
theorem Qb:OpR X (compareOp .Is) (rIs false):=by
 intro pins s σ H x y v u Q I rx ry h;rcases h with ⟨rfl,q⟩|⟨a,b,rfl,rfl,q⟩
 . exact ah5 pins s σ H x .non v u Q I rx ry ⟨rfl,q⟩
 cases rx
 cases ry;refine wpAny_is_plain rfl ?_;refine⟨.bl _,H,I,?_,q⟩;show Value.bool (Value.bool a==Value.bool b)=Value.bool (a==b)
 cases a<;>cases b<;>rfl
theorem J5:OpR X (compareOp .IsNot) (rIs true):=by
 intro pins s σ H x y v u Q I rx ry h;rcases h with ⟨rfl,q⟩|⟨a,b,rfl,rfl,q⟩
 . exact a10 pins s σ H x .non v u Q I rx ry ⟨rfl,q⟩
 cases rx
 cases ry;refine wpAny_isNot_plain rfl ?_;refine⟨.bl _,H,I,?_,q⟩;show Value.bool (!(Value.bool a==Value.bool b))=Value.bool (!(a==b))
 cases a<;>cases b<;>rfl
theorem i_isN {x:V}{H:Hp}{Q:VK}(k:Q (.bl (decide (x = .non))) H):rIs false x .non H Q:=.inl ⟨rfl,k⟩
theorem i_isNotN {x:V}{H:Hp}{Q:VK}(k:Q (.bl (!decide (x = .non))) H):rIs true x .non H Q:=.inl ⟨rfl,k⟩
theorem i_isB {a b:Bool}{H:Hp}{Q:VK}(k:Q (.bl (a==b)) H):rIs false (.bl a) (.bl b) H Q:=.inr ⟨a,b,rfl,rfl,k⟩
theorem i_isNotB {a b:Bool}{H:Hp}{Q:VK}(k:Q (.bl (!(a==b))) H):rIs true (.bl a) (.bl b) H Q:=.inr ⟨a,b,rfl,rfl,k⟩
section
variable {D:Ends}{σ:St}{H:Hp}{t u:TS}{te td ty tv:TE}{g:TG}
theorem W1 (M:St->Hp->Prop)(h1:∀ N:St->Hp->Prop,(∀ σ' H',M σ' H'->N σ' H')->t {D with nx:=N} σ H)(h2:∀ σ' H',M σ' H'->u D σ' H'):a75 t u D σ H:=h1 (u D) h2
end
theorem Zt {a:Addr}{xs:List V}{H:Hp}{Q:VK}(h:SqL K H a xs\/SqT K H a xs)(k:∀ p H',H p=none->Same H H'->H' p=some (.lst xs)->Q (.ref p) H'):Pt K [.ref a] H Q:=⟨a,xs,rfl,h,λp hp=>k p _ hp (Same.upd hp) Aa⟩
theorem mm {id:String}{r:V->List V->Hp->VK->Prop}(h:MtM X id r):MtR X id r:=h
theorem i_tyLm {a:Addr}{xs:List V}{H:Hp}{B:Prop}(h:H a=some (.lst xs))(k:B):tyV K "list" (.ref a) H/\B:=⟨.inl ⟨rfl,xs,SqL.of h⟩,k⟩
theorem Tg {l:Addr}{xs:List V}{y:V}{H:Hp}{Q:VK}(h:H l=some (.lst xs))(hz:xs.length<=1000000)(k:∀ H',ExtBut l H H'->H' l=some (.lst (xs++[y]))->Q .non H'):Rv (.ref l) [y] H Q:=
 ⟨l,xs,y,rfl,rfl,h,by rw[A11];omega,k _ ExtBut.upd Aa⟩
theorem Xe {l:Addr}{xs:List V}{y:V}{i:Int}{H:Hp}{Q:VK}(h:H l=some (.lst xs))(h0:0<=i)(h1:xs[i.toNat]? = some y)(k:∀ H',ExtBut l H H'->H' l=some (.lst (xs.eraseIdx i.toNat))->Q y H')(hz:xs.length<=1000000):Ya (.ref l) [.int i] H Q:=by
 have h2:=(A02.mp h1).1;refine⟨l,xs,i,i.toNat,y,rfl,rfl,h,by omega,by omega,?_,h1,k _ ExtBut.upd Aa⟩;have e:=Lj (B0 (α:=V) h1);obtain⟨j,e1,e2,e3,_⟩:=e;rw[A31 h0] at e1;rw[e1]
 have e4:seqIndex? i xs.length=some i.toNat:=by unfold seqIndex? at e1 ⊢;simp[show ¬ i<0 by omega] at e1 ⊢;omega
 rw[<- e1,e4]
end
def Fu (c:Nat):Bool:=decide (97<=c)&&decide (c<=122)
def M6 (x:Str):Bool:=decide (1<=x.length)&&decide (x.length<=8)&&x.cps.toList.all Fu
def Names (ns:List Str):Prop:=ns.Nodup/\∀ z∈ns,M6 z=true
def LL:Str:="abcdefghijklmnopqrstuvwxyzabcdefghijklmnopqrstuvwxyz"
theorem aa9:Q9 "abcdefghijklmnopqrstuvwxyz" (2:Int).toNat=LL:=by decide +kernel
def LLn:List Nat:=LL.cps.toList
theorem aa2:LL.length=52:=by decide +kernel
theorem Gk:LLn.length=52:=by decide +kernel
theorem Oz:∀ c∈LLn,Fu c=true:=by decide +kernel
def txt (l:List Nat):Str:=⟨l.toArray⟩
theorem Sc {a b:List Nat}(h:txt a=txt b):a=b:=by have:a.toArray=b.toArray:=congrArg Str.cps h;simpa using this
theorem Ul (a b:List Nat):txt a++txt b=txt (a++b):=by show(⟨a.toArray++b.toArray⟩:Str)=⟨(a++b).toArray⟩;simp
theorem Ig {l:List Nat}(h0:1<=l.length)(h1:l.length<=8)(h2:∀ c∈l,Fu c=true):M6 (txt l)=true:=by
 unfold M6;have e:(txt l).length=l.length:=by show l.toArray.size=_;simp
 rw[e,A0U h0,A0U h1];show(true&&true&&l.all Fu)=true;rw[A0W.mpr h2];rfl
def L7 (a b:Nat):List Nat:=(LLn.drop a).take (b-a)
theorem Fy {a b:Nat}(h:a<=b)(h1:b<=52):(L7 a b).length=b-a:=by unfold L7;rw[A17,A24,Gk];omega
theorem Hc {a b:Nat}:∀ c∈L7 a b,Fu c=true:=λc hc=>Oz c (A4N (A2W hc))
theorem Rn {i j:Int}(h0:0<=i)(h1:i<=j)(h2:j<=52):Txt.slice LL (some i) (some j)=txt (L7 i.toNat j.toNat):=by
 have e:=StrLaws.sliceText_plain (x:=LL) (i:=i) (j:=j) ⟨h0,h1,by rw[show LL.cps.toList.length=52 by decide +kernel];omega⟩;have e2:(j-i).toNat=j.toNat-i.toNat:=by omega
 rw[e2] at e;exact e
def M3 (i:Nat):List Nat:=(LLn.drop i).take 1
theorem Z3 {i:Int}(h0:0<=i)(h1:i<52):∃ c,atI LL.cps.toList i=some c/\(⟨#[c]⟩:Str)=txt (M3 i.toNat):=by
 have h2:i.toNat<LLn.length:=by rw[Gk];omega
 refine⟨LLn[i.toNat],?_,?_⟩
 . have:=B0 (A03 h2);rwa[A31 h0] at this
 unfold M3;rw[List.drop_eq_getElem_cons h2];rfl
theorem Ij {i:Nat}(h:i<52):(M3 i).length=1:=by unfold M3;rw[A17,A24,Gk];omega
theorem Hg {i:Nat}:∀ c∈M3 i,Fu c=true:=λc hc=>Oz c (A4N (A2W hc))
theorem D8 {α β:Type}{f:α->β}:∀ {l:List α},l.Nodup->(∀ a∈l,∀ b∈l,f a=f b->a=b)->(l.map f).Nodup
 | [],_,_=>by simp
 |a :: l,h,hf=>by rw[A0I,A0T];rw[A0T] at h;refine⟨λhm=>?_,D8 h.2 λx hx y hy=>hf x (A0C _ hx) y (A0C _ hy)⟩;obtain⟨b,hb,e⟩:=A09.mp hm;have:=hf b (A0C _ hb) a A0J e;subst this;exact h.1 hb
theorem E3 {α β:Type}{f:α->β}:∀ {l:List α},(l.map f).Nodup->∀ a∈l,∀ b∈l,f a=f b->a=b
 | [],_,a,ha,_,_,_=>by cases ha
 |c :: l,h,a,ha,b,hb,e=>by
   rw[A0I,A0T] at h;rcases A0D.mp ha with q|ha'
   . rcases A0D.mp hb with q'|hb'
     . rw[q,q']
     exact absurd (A09.mpr ⟨b,hb',by rw[<- e,q]⟩) h.1
   rcases A0D.mp hb with q'|hb'
   . exact absurd (A09.mpr ⟨a,ha',by rw[e,q']⟩) h.1
   exact E3 h.2 a ha' b hb' e
theorem Nr {l:List (List Nat)}(h:l.Nodup):(l.map txt).Nodup:=D8 h λa _ b _ e=>Sc e
theorem Names.sub {ns ms:List Str}(h:Names ns)(hn:ms.Nodup)(hs:∀ z∈ms,z∈ns):Names ms:=⟨hn,λz hz=>h.2 z (hs z hz)⟩
theorem Names.perm {ns ms:List Str}(h:Names ns)(p:ms.Perm ns):Names ms:=⟨p.nodup_iff.mpr h.1,λz hz=>h.2 z (p.mem_iff.mp hz)⟩
theorem Names.sublist {ns ms:List Str}(h:Names ns)(p:ms.Sublist ns):Names ms:=⟨h.1.sublist p,λz hz=>h.2 z (p.subset hz)⟩
theorem Names.reverse {ns:List Str}(h:Names ns):Names ns.reverse:=h.perm (List.reverse_perm _)
theorem Wc {xs:List V}{t:Int}(h0:0<=t)(h1:t<=xs.length):O7 xs (some t) none=xs.drop t.toNat:=by
 have e:HT.sIx xs.length 0 (some t)=t.toNat:=by unfold HT.sIx;simp[show ¬ t<0 by omega];omega
 unfold O7;rw[e];have e2:HT.sIx xs.length xs.length none=xs.length:=rfl;rw[e2];exact A49 (by rw[A24];omega)
theorem Pc {xs:List V}{t:Int}(h0:0<=t):O7 xs none (some t)=xs.take t.toNat:=by
 have e:HT.sIx xs.length xs.length (some t)=min t.toNat xs.length:=by unfold HT.sIx;simp[show ¬ t<0 by omega]
 unfold O7;rw[e];have e2:HT.sIx xs.length 0 none=0:=rfl;rw[e2,List.drop_zero,Nat.sub_zero,Nat.min_comm];rw[<- List.take_take];exact A49 (by rw[A17];omega)
theorem Lx {lo:Int} {n i:Nat} {x:V} (h:((List.range n).map λ(i:Nat)=>V.int (lo+(i:Int)))[i]? = some x):x = .int (lo+(i:Int))/\i<n:=by
 rw[A0G] at h
 cases e:(List.range n)[i]? with
 |none=>rw[e] at h;cases h
 |some j=>
   rw[e] at h
   cases h;have e1:=A02.mp e;obtain⟨h1,h2⟩:=e1;rw[A3V] at h1;rw[List.getElem_range] at h2;subst h2;exact⟨rfl,h1⟩
def fI (F:Int->V):V->V
 |.int k=>F k
 |v=>v
theorem Ua {lo:Int}{n:Nat}{F:Int->V}{G:Nat->Str}(h:∀ k<n,F (lo+(k:Int)) = .str (G k)):((List.range n).map λ(i:Nat)=>V.int (lo+(i:Int))).map (fI F)=((List.range n).map G).map V.str:=by rw[A2F,A2F];refine A14 λk hk=>?_;exact h k (A2Y.mp hk)
theorem Oj:LL.length<=sizeLine:=by rw[aa2,A11];omega
theorem ExtBut.off {d q:Addr}{H H1 H2:Hp}(e:ExtBut d H H1)(hq:H q=none)(e2:ExtBut q H1 H2):ExtBut d H H2:=λb o n h=>e2 b o (ne_of_none h hq) (e b o n h)
theorem Same.off {q:Addr}{H H1 H2:Hp}(e:Same H H1)(hq:H q=none)(e2:ExtBut q H1 H2):Same H H2:=λb o h=>e2 b o (ne_of_none h hq) (e b o h)
def Up (ls:List Str)(ps:List (Str×Str)):Prop:=∀ p∈ps,∃ i j:Nat,i<j/\ls[i]? = some p.1/\ls[j]? = some p.2
theorem Up.nil {ls:List Str}:Up ls []:=λ_ h=>by cases h
theorem Up.append {ls:List Str}{ps qs:List (Str×Str)}(h:Up ls ps)(g:Up ls qs):Up ls (ps++qs):=λp hp=>by
 rcases A08.mp hp with hp|hp
 . exact h p hp
 exact g p hp
theorem Up.one {ls:List Str}{x y:Str}{i j:Nat}(h:i<j)(hx:ls[i]? = some x)(hy:ls[j]? = some y):Up ls [(x,y)]:=λp hp=>by
 have:p=(x,y):=by simpa using hp
 subst this;exact ⟨i,j,h,hx,hy⟩
theorem Up.sub {ls:List Str}{ps qs:List (Str×Str)}(h:Up ls ps)(s:∀ p∈qs,p∈ps):Up ls qs:=λp hp=>h p (s p hp)
theorem Kv {α:Type}:∀(us:List α) (k:Nat) (y:α),us[k]? = some y->(y :: us.eraseIdx k).Perm us
 | [],k,y,h=>by simp at h
 |u :: us,0,y,h=>by
   have:u=y:=by simpa using h
   subst this;exact List.Perm.refl _
 |u :: us,k+1,y,h=>by have ih:=Kv us k y (by simpa using h);exact(List.Perm.swap u y _).trans (ih.cons u)
theorem Vl {α:Type}{us:List α}{k:Nat}{y:α}(h:us[k]? = some y)(vs:List α):(vs++[y]++us.eraseIdx k).Perm (vs++us):=by rw[A1I];exact List.Perm.append_left vs (Kv us k y h)
theorem Lf {α:Type}{l:List α}{i:Nat}{y:α}(h:i<l.length):l[i]? = some (l.getD i y):=by rw[List.getD_eq_getElem?_getD,A03 h];rfl
inductive Way (ps:List (Str×Str)):Str->Str->Prop
 |one {x y:Str}:(x,y)∈ps->Way ps x y
 |cons {x z y:Str}:(x,z)∈ps->Way ps z y->Way ps x y
theorem Way.trans {ps:List (Str×Str)}{x y z:Str}(h:Way ps x y)(g:Way ps y z):Way ps x z:=by
 induction h with
 |one e=>exact .cons e g
 |cons e _ ih=>exact .cons e (ih g)
theorem Way.snoc {ps:List (Str×Str)}{x y z:Str}(h:Way ps x y)(g:(y,z)∈ps):Way ps x z:=h.trans (.one g)
theorem Way.left {ps:List (Str×Str)}{x y:Str}(h:Way ps x y):x∈ps.map (·.1):=by
 cases h with
 |one e=>exact A09.mpr ⟨_,e,rfl⟩
 |cons e _=>exact A09.mpr ⟨_,e,rfl⟩
theorem Way.right {ps:List (Str×Str)}{x y:Str}(h:Way ps x y):y∈ps.map (·.2):=by
 induction h with
 |one e=>exact A09.mpr ⟨_,e,rfl⟩
 |cons _ _ ih=>exact ih
theorem Way.mono {ps qs:List (Str×Str)}(h:∀ p∈ps,p∈qs){x y:Str}(g:Way ps x y):Way qs x y:=by
 induction g with
 |one e=>exact .one (h _ e)
 |cons e _ ih=>exact .cons (h _ e) ih
theorem Way.shut {ps:List (Str×Str)}{S:Str->Prop}{x:Str}(h0:∀ y,(x,y)∈ps->S y)(h1:∀ z y,S z->(z,y)∈ps->S y){y:Str}(g:Way ps x y):S y:=by
 induction g with
 |one e=>exact h0 _ e
 |cons e _ ih=>exact ih λy hy=>h1 _ _ (h0 _ e) hy
theorem Up.lt {ls:List Str}(hn:ls.Nodup){ps:List (Str×Str)}(h:Up ls ps){x y:Str}(g:Way ps x y):∃ i j:Nat,i<j/\ls[i]? = some x/\ls[j]? = some y:=by
 induction g with
 |one e=>exact h _ e
 |cons e _ ih=>
   obtain⟨i,j,h1,h2,h3⟩:=h _ e;obtain⟨i',j',g1,g2,g3⟩:=ih
   have e:j=i':=by obtain⟨a,b⟩:=A02.mp h3;obtain⟨c,d⟩:=A02.mp g2;exact(A1L hn).mp (b.trans d.symm)
   exact⟨i,j',by omega,h2,g3⟩
theorem Up.irrefl {ls:List Str}(hn:ls.Nodup){ps:List (Str×Str)}(h:Up ls ps){x:Str}:¬ Way ps x x:=λg=>by obtain⟨i,j,h1,h2,h3⟩:=h.lt hn g;obtain⟨a,b⟩:=A02.mp h2;obtain⟨c,d⟩:=A02.mp h3;have:=(A1L hn).mp (b.trans d.symm);omega
theorem Up.mem {ls:List Str}{ps:List (Str×Str)}(h:Up ls ps){p:Str×Str}(hp:p∈ps):p.1∈ls/\p.2∈ls:=by obtain⟨i,j,_,h2,h3⟩:=h p hp;exact⟨A06 h2,A06 h3⟩
structure Half (ns:List Str)(ps:List (Str×Str)):Prop where
 names:Names ns
 few:ns.length<=10
 le:ps.length<=60
 line:∃ ls:List Str,ls.Perm ns/\Up ls ps
theorem Half.irrefl {ns:List Str}{ps:List (Str×Str)}(h:Half ns ps){x:Str}:¬ Way ps x x:=by obtain⟨ls,h1,h2⟩:=h.line;exact h2.irrefl (h1.nodup_iff.mpr h.names.1)
theorem Half.mem {ns:List Str}{ps:List (Str×Str)}(h:Half ns ps){p:Str×Str}(hp:p∈ps):p.1∈ns/\p.2∈ns:=by obtain⟨ls,h1,h2⟩:=h.line;have:=h2.mem hp;exact⟨h1.mem_iff.mp this.1,h1.mem_iff.mp this.2⟩
mutual
def C7:PyData->Bool
 |.none=>true
 |.bool _=>true
 |.str x=>PyData.strOk x
 |.list ds=>G5 ds
 |.tuple ds=>G5 ds
 |_=>false
def G5:List PyData->Bool
 | []=>true
 |d :: ds=>C7 d&&G5 ds
end
mutual
theorem Ix:∀ d:PyData,C7 d=true->d.canLay0=true
 |.none,_=>by simp only[PyData.canLay0]
 |.bool _,_=>by simp only[PyData.canLay0]
 |.str x,h=>by simpa only[PyData.canLay0,C7] using h
 |.list ds,h=>by simp only[PyData.canLay0];exact Gm ds (by simpa only[C7] using h)
 |.tuple ds,h=>by simp only[PyData.canLay0];exact Gm ds (by simpa only[C7] using h)
 |.int _,h=>by simp[C7] at h
 |.dict _,h=>by simp[C7] at h
theorem Gm:∀ ds:List PyData,G5 ds=true->PyData.canLayAll0 ds=true
 | [],_=>by simp only[PyData.canLayAll0]
 |d :: ds,h=>by simp only[G5,Bool.and_eq_true] at h;simp only[PyData.canLayAll0,Ix d h.1,Gm ds h.2,Bool.and_self]
end
mutual
theorem P9:∀ d:PyData,C7 d=true->d.showable=true
 |.none,_=>by simp only[PyData.showable]
 |.bool _,_=>by simp only[PyData.showable]
 |.str x,h=>by simp only[PyData.showable]
 |.list ds,h=>by simp only[PyData.showable];exact Iu ds (by simpa only[C7] using h)
 |.tuple ds,h=>by simp only[PyData.showable];exact Iu ds (by simpa only[C7] using h)
 |.int _,h=>by simp[C7] at h
 |.dict _,h=>by simp[C7] at h
theorem Iu:∀ ds:List PyData,G5 ds=true->PyData.showableAll ds=true
 | [],_=>by simp only[PyData.showableAll]
 |d :: ds,h=>by simp only[G5,Bool.and_eq_true] at h;simp only[PyData.showableAll,P9 d h.1,Iu ds h.2,Bool.and_self]
end
mutual
theorem Kf:∀ d:PyData,C7 d=true->d.intsShort 13=true
 |.none,_=>by simp only[PyData.intsShort]
 |.bool _,_=>by simp only[PyData.intsShort]
 |.str x,h=>by simp only[PyData.intsShort]
 |.list ds,h=>by simp only[PyData.intsShort];exact F5 ds (by simpa only[C7] using h)
 |.tuple ds,h=>by simp only[PyData.intsShort];exact F5 ds (by simpa only[C7] using h)
 |.int _,h=>by simp[C7] at h
 |.dict _,h=>by simp[C7] at h
theorem F5:∀ ds:List PyData,G5 ds=true->PyData.intsShortAll 13 ds=true
 | [],_=>by simp only[PyData.intsShortAll]
 |d :: ds,h=>by simp only[G5,Bool.and_eq_true] at h;simp only[PyData.intsShortAll,Kf d h.1,F5 ds h.2,Bool.and_self]
end
structure Fine (d:PyData):Prop where
 plain:C7 d=true
 deep:d.depth<=60
 light:d.weight<=1000000
theorem Fine.sh {d:PyData}(h:Fine d)(hd:Yk d=true):Sh d:=by refine⟨hd,P9 d h.plain,?_,A0P h.deep nofun⟩;have h2:=PyData.shown_le 13 nofun d (PyData.leavesShort_of_canLay0 13 d (Ix d h.plain) (Kf d h.plain));have:=h.light;rw[A11];omega
theorem Fine.shaped {d:PyData}(h:Fine d):SeqAt.shaped d=true:=by unfold SeqAt.shaped;rw[Ix d h.plain,A0U (A0P h.deep nofun)];rfl
theorem an9 {z:Str}(h:M6 z=true):PyData.strOk z=true/\z.cps.size<=8:=by unfold M6 at h;simp only[Bool.and_eq_true,decide_eq_true_eq] at h;refine⟨?_,h.1.2⟩;unfold PyData.strOk;rw[<- Array.all_toList,A0W];intro c hc;have:=A0W.mp h.2 c hc;unfold Fu at this;simp only[Bool.and_eq_true,decide_eq_true_eq] at this;exact A0U (by omega)
def NmP (ps:List (Str×Str)):Prop:=∀ p∈ps,M6 p.1=true/\M6 p.2=true
theorem B3 {α:Type}[DecidableEq α]:∀ {xs ys:List α},xs.Nodup->(∀ x∈xs,x∈ys)->xs.length<=ys.length
 | [],_,_,_=>A2R _
 |x :: xs,ys,h,hs=>by
   rw[A0T] at h;have hx:x∈ys:=hs x A0J
   have ih:=B3 (xs:=xs) (ys:=ys.erase x) h.2 λz hz=>by refine(List.mem_erase_of_ne ?_).mpr (hs z (A0C _ hz));intro e;subst e;exact h.1 hz
   rw[List.length_erase_of_mem hx] at ih;have:0<ys.length:=List.length_pos_of_mem hx;rw[A0F];omega
section
variable {c:TT}{tb:TS}{D:Ends}{σ:St}{H:Hp}
end
section
variable {X:Cx}{K:W.Frag}
def Oa:V->List V->Hp->VK->Prop:=λx vs H Q=>∃ d o kvs more,x = .ref d/\vs=[.ref o]/\d≠o/\H d=some (.dK kvs)/\H o=some (.dK more)/\kvs.length+more.length<=1000000/\Q .non (upd H d (.dK (Cz kvs more)))
theorem Ro:MtM X "dict.update" Oa:=by
 intro pins s σ H x vs v us Q I rx rv h;obtain⟨d,o,kvs,more,rfl,rfl,hdo,hD,hO,hz,q⟩:=h
 cases rx;obtain⟨u,rfl,ru⟩:=rv.one
 cases ru;obtain⟨z1,hd1,vs1,rel1,dd1⟩:=M0 I.hok hD;obtain⟨z2,hd2,vs2,rel2,dd2⟩:=M0 I.hok hO;have l1:kvs.length=vs1.length:=rel1.length;have l2:more.length=vs2.length:=rel2.length;refine call_meetsIn F.slot_dict_update dd1.typeIs F.entry_dict_update (F.args_dict_update_2 _ _) (meets_dict_update (Ak X.prog X.w) d o hdo hd2) ⟨vs1,vs2,dd1,dd2,A5 (by omega),λh' dd' _ hs=>?_⟩;have he:∃ q,h'.get? d=some q:=let ⟨q,_,_,hq,_⟩:=dd';⟨q,hq⟩;refine⟨.non,_,Ly I (by rw[hD];exact A1U) hs he (Pj ?_ hd1 (KV.merge rel2 rel1) dd'),rfl,q⟩;have:=Cq more kvs;exact A5 (by omega)
end
theorem Ir:entryFor table "dict.update.loop" = some Builtin.«dict.update.loop»:=entryFor_of_tree (by kernel_rfl)
theorem Dr:plainId "dict.update.loop" = true:=by decide +kernel
theorem Mi:typeLookup (.type "list") "keys" = pure none:=by rw[typeLookup_type,builtinLookup_eq_fast];kernel_rfl
section
variable {prog:Program}{w:World}{κ:Type}[DecidableEq κ]{knd:KeyKind prog w κ}{A:Around}{E:Value->Shared->Prop}{s:Shared}
theorem Tz {a:Addr}{xs:Array Value}{k:Nat}{Q:Option Value->Shared->Prop}(hx:s.heap.get? a=some {cls:=.type "list",data:=.seq xs k})(hA:A.handled=none)
  (h:∀ h' tk,(∀ b o,s.heap.get? b=some o->h'.get? b=some o)->Q none {s with heap:=h',toks:=tk}):wpAny (model prog w) A (getAttr? (.ref a) "keys") Q E s:=by
 obtain⟨hp,g,d,tk,os⟩:=s;have hT:∀ tk',(⟨hp,g,d,tk',os⟩:Shared).TypeIs (.ref a) "list":=λ_=>⟨_,hx,rfl⟩;have f1:=sub_AttributeError;have f3:=F.slot_list_getattribute.lookup;have f4:=F.slot_list_getattribute.bind (.ref a);have f5:=am_list_getattr_none;unfold getAttr? getAttrBy? getAttrBy
 repeat (any_goals (first | assumption | exact hT _ | ((with_reducible show wpAny _ _ (call (Value.builtin "list.__getattribute__") _ _) _ _ _);refine A2L F.slot_list_getattribute (hT _) am_entry_list_getattribute (F.args_list_getattribute_2 _ _) (meets_getattribute_miss_list a xs k #[] "keys" _ Mi (by decide +kernel) (by rw[A11];decide +kernel)) ⟨hx,hA,λh' tk' e hx'=>?_⟩) | wp_step))
 obtain⟨t',u',he⟩:=hx'.there;show wpAny _ _ (getattributeRaised _ _ _ _ _ _ _) _ _ _;unfold getattributeRaised
 repeat (any_goals (first | assumption | wp_step))
 exact h _ _ hx'.keeps
theorem Qv {t:Addr}{k v:Value}{Q:List Value->Shared->Prop}(ht:IsTup s.heap t #[k,v])(h:Q [k,v] s):wpAny (model prog w) A (Builtin.Dict.pairItems (.ref t)) Q E s:=by obtain⟨o,ho,hc,n,hd⟩:=ht;unfold Builtin.Dict.pairItems;refine A00 (A4C ⟨o,ho,hc⟩ ?_);rw[A0Q nofun];refine A00 (A1Y ho hd ?_);exact A04 h
theorem Sf {I D l:Addr}{items:Array Value}(hh:A.in1.handled=none)(hne:l≠I)(hDI:D≠I)(hDl:D≠l)(pk:List (κ×Value×Addr×Value))(hlen:pk.length=items.size)(hz:items.size<=1000000) :
  ∀(j i:Nat) (s:Shared) (R:Result->Shared->Prop),items.size-i=j->i<=items.size->s.heap.IsListIter I l i->s.heap.IsList l items ->
   s.heap.DictOf knd D (merged [] ((pk.take i).map λp=>(p.1,p.2.1))) ->
   (∀(n:Nat) (p:κ×Value×Addr×Value),pk[n]? = some p->items[n]? = some (Value.ref p.2.2.1)/\p.2.2.1≠I/\p.2.2.1≠D/\IsTup s.heap p.2.2.1 #[p.2.2.2,p.2.1]/\knd.is p.1 p.2.2.2=true) ->
   (∀ h' tk,h'.DictOf knd D (merged [] (pk.map λp=>(p.1,p.2.1)))->(∀ b o,b≠D->b≠I->s.heap.get? b=some o->h'.get? b=some o)->R (.ok (.ret .none)) {s with heap:=h',toks:=tk}) ->
   codeAny (model prog w) A (.builtin "dict.update.loop" ⟨[.ref D,.ref I,.int i 0,.none],[]⟩) R s:=by
 have W:=Walks.list (prog:=prog) (w:=w) hh I l hne items;intro j
 induction j with
 |zero=>
   intro i s R hj hi hI hL hD hP hR;have hin:i=items.size:=by omega
   subst hin;refine A3O Ir ?_;rw[A3J Dr _];show wpAny _ A.in1 (pyNext (.ref I) >>= _) _ _ s;refine A00 (W.done s _ _ ⟨hI,hL⟩ λh' tk hm=>?_);show wpAny _ A.in1 (Builtin.Dict.addKeywords D [] >>= _) _ _ _;refine wpAny_bind (wpAny_pure (wpAny_pure (hR h' tk ?_ λb o hb hb' e=>hm b o (by simpa using hb') e)));rw[<- hlen,A1E] at hD;obtain⟨o,es,ep,ho,r⟩:=hD;exact⟨o,es,ep,hm D o (by simpa using hDI) ho,r⟩
 |succ j ih=>
   intro i s R hj hi hI hL hD hP hR;have hlt:i<items.size:=by omega
   obtain⟨p,hp⟩:∃ p,pk[i]? = some p:=⟨pk[i]'(by omega),A03 _⟩;obtain⟨q1,q2,q3,q4,q5⟩:=hP i p hp;refine A3O Ir ?_;rw[A3J Dr _];show wpAny _ A.in1 (pyNext (.ref I) >>= _) _ _ s;refine A00 (W.item i s _ _ hlt ⟨hI,hL⟩ λv h' tk hv hst hm=>?_)
   have hv':v = .ref p.2.2.1:=by have hv2:items[i]? = some v:=hv;rw[q1] at hv2;exact(A0X hv2).symm
   subst hv'
   have ht':IsTup h' p.2.2.1 #[p.2.2.2,p.2.1]:=by obtain⟨o,ho,r⟩:=q4;exact⟨o,hm _ o (by simpa using q2) ho,r⟩
   have hD':h'.DictOf knd D (merged [] ((pk.take i).map λp=>(p.1,p.2.1))):=by obtain⟨o,es,ep,ho,r⟩:=hD;exact⟨o,es,ep,hm D o (by simpa using hDI) ho,r⟩
   show wpAny _ A.in1 (holding [Value.ref p.2.2.1] _ >>= _) _ _ _;refine A00 (A1P ?_);refine A00 (wpAny_tryCatch (Qv ht' ?_));show wpAny _ A.in1 (holding [p.2.2.2,p.2.1] (dictSet D p.2.2.2 p.2.1)) _ _ _;refine A1P (wpAny_dictSet_pairs q5 hD' (λh'' hD'' hs=>?_) ?_)
   . refine A04 ⟨plainId_quiet Dr _,?_⟩;have hkeep:∀ b o,b≠D->b≠I->s.heap.get? b=some o->h''.get? b=some o:=λb o h1 h2 e=>(hs.2 b h1).trans (hm b o (by simpa using h2) e);refine ih (i+1) _ R (by omega) hlt ?_ ?_ ?_ (λn p' hp'=>?_) λh3 tk3 hD3 hk3=>hR h3 tk3 hD3 λb o h1 h2 e=>hk3 b o h1 h2 (hkeep b o h1 h2 e)
     . exact hst.1.at λo e=>(hs.2 I (Ne.symm hDI)).trans e
     . exact hst.2.at λo e=>(hs.2 l (Ne.symm hDl)).trans e
     . have e:merged [] ((pk.take (i+1)).map λp=>(p.1,p.2.1))=stored (merged [] ((pk.take i).map λp=>(p.1,p.2.1))) p.1 p.2.1:=by rw[A10,hp];unfold merged;rw[A19,List.foldl_append];rfl
       rw[e];exact hD''
     obtain⟨a1,a2,a3,⟨o,ho,r⟩,a5⟩:=hP n p' hp';exact⟨a1,a2,a3,⟨o,hkeep _ o a3 a2 ho,r⟩,a5⟩
   refine A0P (merged_length_le _ _) (A5 ?_);rw[A05,A17];simp;omega
theorem J8 {l:Addr}{items:Array Value}{n:Nat}{Q:Value->Shared->Prop}(hl:s.heap.get? l=some {cls:=.type "list",data:=.seq items n})(hA:A.handled=none)(pk:List (κ×Value×Addr×Value))(hlen:pk.length=items.size)(hz:items.size<=1000000)
  (hP:∀(n:Nat) (p:κ×Value×Addr×Value),pk[n]? = some p->items[n]? = some (Value.ref p.2.2.1)/\IsTup s.heap p.2.2.1 #[p.2.2.2,p.2.1]/\knd.is p.1 p.2.2.2=true)
  (h:∀ h' tk,h'.DictOf knd s.heap.objs.size (merged [] (pk.map λp=>(p.1,p.2.1)))->(∀ b o,s.heap.get? b=some o->h'.get? b=some o)->Q (.ref s.heap.objs.size) {s with heap:=h',toks:=tk}) :
  wpAny (model prog w) A (call (.type "dict") [.ref l]) Q E s:=by
 refine callType_codes (Q₁:=λobj s₁=>obj = .ref s.heap.objs.size/\s₁={s with heap:=s.heap.push {cls:=.type "dict",data:=.dict #[]}}) F.kt_called_dict (F.kt_typeCall_dict_1 _) F.entry_dict_init (kt_code_dict_new _ ⟨rfl,rfl⟩) ?_
 rintro obj s₁ ⟨rfl,rfl⟩;have hnew:(s.heap.push {cls:=.type "dict",data:=.dict #[]}).DictOf knd s.heap.objs.size []:=Heap.DictOf.new s.heap;have hl':(s.heap.push {cls:=.type "dict",data:=.dict #[]}).get? l=some {cls:=.type "list",data:=.seq items n}:=A01 _ hl;have hll:l<s.heap.objs.size:=A07 hl;refine⟨hnew.typeIs,F.args_dict_init_2 _ _,?_⟩;unfold Builtin.«dict.__init__»;refine A00 ?_;unfold Builtin.Dict.selfAndRest;refine A00 (A4J hnew.typeIs ?_);show wpAny _ _ (pure (s.heap.objs.size,[Value.ref l])) _ _ _;refine A04 ?_;show wpAny _ _ (Builtin.Dict.updateFrom "dict.__init__" s.heap.objs.size (.ref l) [] .none) _ _ _;unfold Builtin.Dict.updateFrom;refine A00 (A4C ⟨_,hl',rfl⟩ ?_);rw[A0Q nofun];refine wpAny_bind (Tz hl' (by simpa using hA) λh1 tk1 hk1=>?_);have hl1:h1.get? l=some {cls:=.type "list",data:=.seq items n}:=hk1 _ _ hl';rw[A0Q (show(none:Option Value).isNone=true from rfl)]
 have hD1:h1.DictOf knd s.heap.objs.size []:=by obtain⟨o,es,ep,ho,r⟩:=hnew;exact⟨o,es,ep,hk1 _ _ ho,r⟩
 have hsz:s.heap.objs.size<h1.objs.size:=by obtain⟨o,es,ep,ho,r⟩:=hD1;exact A07 ho
 refine A00 (A3W ?_);have hL1:h1.IsList l items:=⟨_,hl1,rfl,n,rfl⟩;refine A00 (A3D hL1 ?_);refine A04 ⟨plainId_quiet Dr _,?_⟩;have kp:∀ b o,s.heap.get? b=some o->(h1.push {cls:=.type "list_iterator",data:=.fields #[.ref l,.int 0 0]}).get? b=some o:=λb o e=>A01 _ (hk1 _ _ (A01 _ e));refine Sf (knd:=knd) (A:=A.in1) (I:=h1.objs.size) (D:=s.heap.objs.size) (l:=l) (items:=items) (by simpa using hA) (Nat.ne_of_lt (Nat.lt_trans hll hsz)) (Nat.ne_of_lt hsz) (Nat.ne_of_gt hll) pk hlen hz items.size 0 _ _ (Nat.sub_zero _) (Nat.zero_le _) ⟨_,Heap.get?_push_size _ rfl,rfl,rfl⟩ (hL1.push _) ?_ (λm p hp=>?_) λh' tk hD hk=>?_
 . exact hD1.push _
 . obtain⟨a1,⟨o,ho,r⟩,a3⟩:=hP m p hp;have hlt:=A07 ho;exact⟨a1,A0O (A4H hlt hsz),A0O hlt,⟨o,kp _ _ ho,r⟩,a3⟩
 refine⟨rfl,h h' tk hD λb o e=>?_⟩;have hlt:=A07 e;exact hk b o (A0O hlt) (A0O (A4H hlt hsz)) (kp b o e)
end
def PrsK (K:W.Frag)(H:Hp):List (Key×V)->List V->Prop
 | [],ys=>ys=[]
 |kv :: r,ys=>∃ t ys',ys = .ref t :: ys'/\SqT K H t [kV kv.1,kv.2]/\PrsK K H r ys'
theorem PrsK.pk {X:Cx}{pins:List (Addr×Obj)}{σ:St}{H:Hp}{s:Shared}(I:Inv X pins σ H s):∀(kvs:List (Key×V)) (ys:List V) (its:List Value),PrsK X.K H kvs ys->Vals ys its ->
  ∃ pk:List (Key×Value×Addr×Value),pk.length=its.length/\KV kvs (pk.map λp=>(p.1,p.2.1))/\∀(n:Nat) (p:Key×Value×Addr×Value),pk[n]? = some p->its[n]? = some (Value.ref p.2.2.1)/\IsTup s.heap p.2.2.1 #[p.2.2.2,p.2.1]/\(Ak X.prog X.w).is p.1 p.2.2.2=true
 | [],ys,its,h,v=>by
   have h':ys=[]:=h;subst h'
   cases v;exact ⟨[],rfl,.nil,λn p hp=>by simp at hp⟩
 |kv :: r,ys,its,h,v=>by
   obtain⟨t,ys',rfl,h2,h3⟩:=h
   cases v with
   |cons v1 v2=>
     obtain⟨pk,l1,l2,l3⟩:=PrsK.pk I r ys' _ h3 v2
     cases v1;obtain ⟨its2,rv,ht,_⟩:=I.tuple h2;obtain⟨key,val,rfl,a1,a3⟩:=Vals.two rv;refine⟨(kv.1,val,t,key) :: pk,by simp[l1],.cons ⟨rfl,a3⟩ l2,λn p hp=>?_⟩
     cases n with
     |zero=>have:p=(kv.1,val,t,key):=(Option.some.inj (by simpa using hp)).symm;subst this;exact⟨rfl,ht,Eu a1⟩
     |succ n=>exact l3 n p (by simpa using hp)
section
variable {X:Cx}{K:W.Frag}
def T0 (K:W.Frag):List V->Hp->VK->Prop:=λxs H Q=>∃ l ys kvs,xs=[V.ref l]/\H l=some (.lst ys)/\PrsK K H kvs ys/\ys.length<=1000000/\kvs.length<=1000000/\∀ p,H p=none->Q (.ref p) (upd H p (.dK (Cz [] kvs)))
theorem R0 (hr:X.A.handled=none):CallR X (.type "dict") (T0 X.K):=by
 intro pins s σ H xs us Q I rv h;obtain⟨l,ys,kvs,rfl,hl,hp,hz,hz2,q⟩:=h;obtain⟨u,rfl,ru⟩:=rv.one
 cases ru;obtain⟨z,its,n,r,hlen,e⟩:=I.lstM hl;obtain⟨pk,l1,l2,l3⟩:=PrsK.pk I kvs ys its hp r;refine J8 (knd:=Ak X.prog X.w) e hr pk (by simpa using l1) (by simp;omega) (λn p hp=>?_) λh' tk hD hk=>?_
 . obtain⟨a1,a2,a3⟩:=l3 n p hp;exact⟨by simpa using a1,a2,a3⟩
 refine⟨.ref s.heap.objs.size,_,I.laid hk (A0A _) (Pj ?_ ?_ (KV.merge l2 .nil) hD),rfl,q _ (I.hok.fresh (A0A _))⟩
 . have:=Cq kvs [];exact A5 (by simpa using Nat.le_trans this (by simpa using hz2))
 exact A0S.mpr (A2Q I.big)
theorem Re (hr:X.A.handled=none)(hK:X.K=K:=by ac_nf):CallR X (.type "dict") (T0 K):=hK ▸ R0 hr
end
def Ep (ns:List Str)(as:List Addr):List (Key×V):=(ns.zip as).map λp=>(Sum.inr p.1,V.ref p.2)
def E2 (ks:List Str):List (Key×V):=ks.map λy=>(Sum.inr y,V.bl true)
theorem Io:∀ {ns:List Str} {as:List Addr} {i:Nat} {z:Str} {a:Addr},ns.Nodup->ns[i]? = some z->as[i]? = some a->Cf (Ep ns as) (Sum.inr z:Key)=some (.ref a)
 | [],_,i,_,_,_,h,_=>by simp at h
 |n :: ns,[],i,_,_,_,_,h=>by simp at h
 |n :: ns,b :: as,0,z,a,_,h,g=>by simp at h g;subst h g;exact B9 rfl
 |n :: ns,b :: as,i+1,z,a,hn,h,g=>by
   rw[A0T] at hn;have h':ns[i]? = some z:=by simpa using h
   have ne:¬ (Sum.inr n:Key)=Sum.inr z:=by
    intro e;have e2:n=z:=by injection e
    subst e2;exact hn.1 (A06 h')
   show Cf ((Sum.inr n,V.ref b) :: Ep ns as) _=_;rw[Bd ne];exact Io hn.2 h' (by simpa using g)
theorem G7 (y:Str):∀ ks:List Str,Cf (E2 ks) (Sum.inr y:Key)=if y∈ks then some (.bl true) else none
 | []=>by simp[E2,Wk]
 |k :: ks=>by
   show Cf ((Sum.inr k,V.bl true) :: E2 ks) _=_
   by_cases e:k=y
   . subst e;rw[B9 rfl,A0Q A0J]
   rw[Bd (by intro q;injection q with q;exact e q),G7 y ks]
   have:(y∈k :: ks)↔y∈ks:=by simp[Ne.symm e]
   simp only[this]
def Vb (ks:List Str)(y:Str):List Str:=if y∈ks then ks else ks++[y]
theorem mem_addK {ks:List Str}{y z:Str}:z∈Vb ks y↔z∈ks\/z=y:=by
 unfold Vb
 split
 . constructor
   . exact .inl
   rintro(h|rfl)
   . exact h
   assumption
 simp
theorem Kq {ks:List Str}{y:Str}(h:ks.Nodup):(Vb ks y).Nodup:=by
 unfold Vb
 split
 . exact h
 rename_i hy;rw[A1A];refine⟨h,by simp,λa ha b hb e=>?_⟩;have:b=y:=by simpa using hb
 subst this;subst e;exact hy ha
theorem a36 (y:Str)(ks:List Str):((E2 ks).any λkv=>decide (kv.1=(Sum.inr y:Key)))=decide (y∈ks):=by
 induction ks with
 |nil=>simp[E2]
 |cons k ks ih=>
   show(decide ((Sum.inr k:Key)=Sum.inr y)||(E2 ks).any _)=_
   rw[ih]
   by_cases e:k=y
   . subst e;simp
   have e':¬ (Sum.inr k:Key)=Sum.inr y:=by intro q;injection q with q;exact e q
   simp[e',Ne.symm e]
theorem Us (ks:List Str)(y:Str):D9 (E2 ks) (Sum.inr y:Key) (.bl true)=E2 (Vb ks y):=by
 unfold D9 Vb;rw[a36]
 by_cases h:y∈ks
 . rw[A0Q (A0U h),A0Q h];unfold E2;rw[A2F];refine A14 λk _=>?_;show(if(Sum.inr k:Key)=Sum.inr y then(Sum.inr k,V.bl true) else(Sum.inr k,V.bl true))=_
   split<;>rfl
 rw[if_neg (by simpa using h),if_neg h];unfold E2;rw[A19];rfl
def Bk (ks ms:List Str):List Str:=ms.foldl Vb ks
theorem Nv:∀(ms ks:List Str),Cz (E2 ks) (E2 ms)=E2 (Bk ks ms)
 | [],ks=>rfl
 |m :: ms,ks=>by show Cz (D9 (E2 ks) (Sum.inr m) (.bl true)) (E2 ms)=_;rw[Us,Nv ms];rfl
theorem mem_addAll:∀ {ms ks:List Str} {z:Str},z∈Bk ks ms↔z∈ks\/z∈ms
 | [],ks,z=>by simp[Bk]
 |m :: ms,ks,z=>by show z∈Bk (Vb ks m) ms↔_;rw[mem_addAll,mem_addK,A0D,or_assoc]
theorem Ce:∀ {ms ks:List Str},ks.Nodup->(Bk ks ms).Nodup
 | [],ks,h=>h
 |m :: ms,ks,h=>Ce (ms:=ms) (Kq h)
theorem He (ks:List Str):(E2 ks).length=ks.length:=by simp[E2]
theorem O2:∀(kvs acc:List (Key×V)),(kvs.map (·.1)).Nodup->(∀ k∈kvs,∀ q∈acc,q.1≠k.1)->Cz acc kvs=acc++kvs
 | [],acc,_,_=>by simp[Cz]
 |k :: kvs,acc,hn,hd=>by
   show Cz (D9 acc k.1 k.2) kvs=_
   have e:D9 acc k.1 k.2=acc++[k]:=by
    unfold D9
    have:¬ (acc.any λkv=>decide (kv.1=k.1))=true:=by rw[A1D];rintro⟨q,hq,e⟩;exact hd k A0J q hq (A21 e)
    rw[A0L this]
   rw[A0I,A0T] at hn;rw[e,O2 kvs (acc++[k]) hn.2 λx hx q hq=>?_,A1I]
   . rfl
   rcases A08.mp hq with hq|hq
   . exact hd x (A0C _ hx) q hq
   have:q=k:=by simpa using hq
   subst this;intro e;exact hn.1 (A09.mpr ⟨x,hx,e.symm⟩)
structure Tab (H:Hp)(r:Addr)(ns:List Str)(as:List Addr)(R:Str->Str->Prop):Prop where
 len:as.length=ns.length
 nd:as.Nodup
 nr:r∉as
 top:H r=some (.dK (Ep ns as))
 row:∀(i:Nat) (z:Str) (a:Addr),ns[i]? = some z->as[i]? = some a->∃ ks:List Str,H a=some (.dK (E2 ks))/\ks.Nodup/\(∀ y∈ks,y∈ns)/\∀ y,y∈ks↔R z y
theorem Tab.same {H H':Hp}{r:Addr}{ns:List Str}{as:List Addr}{R:Str->Str->Prop}(h:Tab H r ns as R)(e:Same H H'):Tab H' r ns as R:=
 ⟨h.len,h.nd,h.nr,e _ _ h.top,λi z a hz ha=>let ⟨ks,h1,h2⟩:=h.row i z a hz ha;⟨ks,e _ _ h1,h2⟩⟩
theorem Tab.lst {H H':Hp}{r l:Addr}{ns:List Str}{as:List Addr}{R:Str->Str->Prop}{xs:List V}(h:Tab H r ns as R)(e:ExtBut l H H')(hl:H l=some (.lst xs)):Tab H' r ns as R:=
 ⟨h.len,h.nd,h.nr,e _ _ (ne_of h.top hl (by intro z;cases z)) h.top,λi z a hz ha=>let ⟨ks,h1,h2⟩:=h.row i z a hz ha;⟨ks,e _ _ (ne_of h1 hl (by intro z;cases z)) h1,h2⟩⟩
theorem Tab.congr {H:Hp}{r:Addr}{ns:List Str}{as:List Addr}{R R':Str->Str->Prop}(h:Tab H r ns as R)(e:∀ z∈ns,∀ y,R z y↔R' z y):Tab H r ns as R':=
 ⟨h.len,h.nd,h.nr,h.top,λi z a hz ha=>let ⟨ks,h1,h2,h3,h4⟩:=h.row i z a hz ha;⟨ks,h1,h2,h3,λy=>(h4 y).trans (e z (A06 hz) y)⟩⟩
theorem Tab.put {H H':Hp}{r b:Addr}{ns:List Str}{as:List Addr}{R R':Str->Str->Prop}(h:Tab H r ns as R)(e:ExtBut b H H'){j:Nat}{x:Str}(hn:ns.Nodup)(hj:ns[j]? = some x)(hb:as[j]? = some b){ks:List Str}
  (hk:H' b=some (.dK (E2 ks))) (k1:ks.Nodup) (k2:∀ y∈ks,y∈ns) (k3:∀ y,y∈ks↔R' x y) (k4:∀ z∈ns,z≠x->∀ y,R z y↔R' z y):Tab H' r ns as R':=by
 refine⟨h.len,h.nd,h.nr,e _ _ (λq=>h.nr (q ▸ A06 hb)) h.top,λi z a hz ha=>?_⟩
 by_cases hij:i=j
 . subst hij;rw[hz] at hj
   cases hj;rw[ha] at hb
   cases hb;exact⟨ks,hk,k1,k2,k3⟩
 obtain⟨ms,h1,h2,h3,h4⟩:=h.row i z a hz ha
 have hab:a≠b:=by intro q;subst q;obtain⟨p1,p2⟩:=A02.mp ha;obtain⟨q1,q2⟩:=A02.mp hb;exact hij ((A1L h.nd).mp (p2.trans q2.symm))
 have hzx:z≠x:=by intro q;subst q;obtain⟨p1,p2⟩:=A02.mp hz;obtain⟨q1,q2⟩:=A02.mp hj;exact hij ((A1L hn).mp (p2.trans q2.symm))
 exact⟨ms,e _ _ hab h1,h2,h3,λy=>(h4 y).trans (k4 z (A06 hz) hzx y)⟩
theorem Tab.at {H:Hp}{r:Addr}{ns:List Str}{as:List Addr}{R:Str->Str->Prop}(h:Tab H r ns as R){x:Str}(hx:x∈ns):∃(i:Nat) (a:Addr),ns[i]? = some x/\as[i]? = some a:=by
 obtain⟨i,hi,e⟩:=A1V hx;have hi':i<as.length:=by rw[h.len];exact hi
 exact⟨i,as[i],by rw[A03 hi,e],A03 hi'⟩
section
variable {K:W.Frag}{H:Hp}{Q:VK}{r:Addr}{ns:List Str}{as:List Addr}{R:Str->Str->Prop}
theorem R7 {x:Str}{i:Nat}{a:Addr}(h:Tab H r ns as R)(hn:ns.Nodup)(hx:ns[i]? = some x)(ha:as[i]? = some a)(k:Q (.ref a) H):Qx K (.ref r) (.str x) H Q:=i_ixD h.top (Io hn hx ha) k
theorem Zw {a:Addr}{ks:List Str}{y:Str}(h:H a=some (.dK (E2 ks)))(k:Q (.bl (decide (y∈ks))) H):Va K false (.str y) (.ref a) H Q:=by
 refine .inr (.inr (.inl ⟨a,Cf (E2 ks) (Sum.inr y:Key),rfl,DGet.k (k:=Sum.inr y) h,?_⟩));rw[G7]
 by_cases e:y∈ks
 . rw[if_pos e];simpa[e] using k
 rw[if_neg e];simpa[e] using k
theorem ae2 {a:Addr}{kvs:List (Key×V)}{B:Prop}(h:H a=some (.dK kvs))(k:B):tyV K "dict" (.ref a) H/\B:=⟨.inr (.inr (.inl ⟨rfl,.inl ⟨kvs,h⟩⟩)),k⟩
theorem am5 {d o:Addr}{ks ms:List Str}(hd:H d=some (.dK (E2 ks)))(ho:H o=some (.dK (E2 ms)))(hne:d≠o)(hz:ks.length+ms.length<=1000000)(k:∀ H',ExtBut d H H'->H' d=some (.dK (E2 (Bk ks ms)))->Q .non H'):Oa (.ref d) [.ref o] H Q:=
 ⟨d,o,_,_,rfl,rfl,hne,hd,ho,by rw[He,He];exact hz,k _ ExtBut.upd (by rw[Aa,Nv])⟩
end
structure HalfW (ns:List Str)(ps:List (Str×Str)):Prop where
 nd:ns.Nodup
 mem:∀ p∈ps,p.1∈ns/\p.2∈ns
 irr:∀ x,¬ Way ps x x
 few:ns.length<=100
 le:ps.length<=1000
theorem Half.w {ns:List Str}{ps:List (Str×Str)}(h:Half ns ps):HalfW ns ps:=⟨h.names.1,λp hp=>h.mem hp,λ_=>h.irrefl,A0P h.few nofun,A0P h.le nofun⟩
structure War (ns:List Str)(ps:List (Str×Str))(ms:List Str)(R:Str->Str->Prop):Prop where
 snd:∀ z y,R z y->Way ps z y
 edge:∀ z y,(z,y)∈ps->R z y
 shut:∀ m∈ms,∀ z y,R z m->R m y->R z y
def Yp (R:Str->Str->Prop)(mid:Str)(ms:List Str)(z y:Str):Prop:=R z y\/(z∈ms/\R z mid/\R mid y)
theorem War.step {ns:List Str}{ps:List (Str×Str)}{ms:List Str}{R:Str->Str->Prop}(h:War ns ps ms R){mid:Str}:War ns ps (ms++[mid]) (λz y=>R z y\/(R z mid/\R mid y)):=by
 refine⟨λz y hz=>?_,λz y hz=>.inl (h.edge z y hz),λm hm z y h1 h2=>?_⟩
 . rcases hz with hz|⟨h1,h2⟩
   . exact h.snd z y hz
   exact(h.snd _ _ h1).trans (h.snd _ _ h2)
 rcases A08.mp hm with hm|hm
 . rcases h1 with h1|⟨h1,h1'⟩
   . rcases h2 with h2|⟨h2,h2'⟩
     . exact .inl (h.shut m hm z y h1 h2)
     exact .inr ⟨h.shut m hm z mid h1 h2,h2'⟩
   rcases h2 with h2|⟨h2,h2'⟩
   . exact .inr ⟨h1,h.shut m hm mid y h1' h2⟩
   exact .inr ⟨h1,h2'⟩
 have e:m=mid:=by simpa using hm
 subst e;rcases h1 with h1|⟨h1,h1'⟩
 . rcases h2 with h2|⟨h2,h2'⟩
   . exact .inr ⟨h1,h2⟩
   exact .inr ⟨h1,h2'⟩
 rcases h2 with h2|⟨h2,h2'⟩
 . exact .inr ⟨h1,h2⟩
 exact .inr ⟨h1,h2'⟩
theorem War.done {ns:List Str}{ps:List (Str×Str)}{R:Str->Str->Prop}(h:War ns ps ns R)(hm:∀ p∈ps,p.1∈ns/\p.2∈ns)(z y:Str):R z y↔Way ps z y:=by
 refine⟨h.snd z y,λg=>?_⟩
 induction g with
 |one e=>exact h.edge _ _ e
 |cons e _ ih=>exact h.shut _ (hm _ e).2 _ _ (h.edge _ _ e) ih
theorem PrsK.fz {K:W.Frag} {H H':Hp} (e:Fz H H'):∀ {kvs:List (Key×V)} {ys:List V},PrsK K H kvs ys->PrsK K H' kvs ys
 | [],_,h=>h
 |kv :: r,ys,⟨t,ys',h1,h2,h3⟩=>⟨t,ys',h1,e.seq h2,PrsK.fz e h3⟩
theorem PrsK.snoc {K:W.Frag}{H:Hp}{kv:Key×V}{t:Addr}(h:SqT K H t [kV kv.1,kv.2]):∀ {kvs:List (Key×V)} {ys:List V},PrsK K H kvs ys->PrsK K H (kvs++[kv]) (ys++[.ref t])
 | [],ys,g=>by have g':ys=[]:=g;subst g';exact⟨t,[],rfl,h,rfl⟩
 |k :: r,ys,⟨u,ys',h1,h2,h3⟩=>by subst h1;exact⟨u,ys'++[.ref t],rfl,h2,PrsK.snoc h h3⟩
theorem PrsK.length {K:W.Frag}{H:Hp}:∀ {kvs:List (Key×V)} {ys:List V},PrsK K H kvs ys->ys.length=kvs.length
 | [],ys,g=>by have g':ys=[]:=g;subst g';rfl
 |k :: r,ys,⟨u,ys',h1,h2,h3⟩=>by subst h1;simp[PrsK.length h3]
theorem af4 {K:W.Frag}{H:Hp}{Q:VK}{l:Addr}{ys:List V}{kvs:List (Key×V)}(h:H l=some (.lst ys))(g:PrsK K H kvs ys)(hz:kvs.length<=1000000)(k:∀ p H',H p=none->Same H H'->H' p=some (.dK (Cz [] kvs))->Q (.ref p) H'):T0 K [.ref l] H Q:=
 ⟨l, ys,kvs,rfl,h,g,by rw[g.length];exact hz,hz,λp hp=>k p _ hp (Same.upd hp) Aa⟩
theorem L8:∀ {ns:List Str} {as:List Addr},ns.Nodup->((Ep ns as).map (·.1)).Nodup
 | [],as,_=>by simp[Ep]
 |n :: ns,[],_=>by simp[Ep]
 |n :: ns,a :: as,h=>by
   rw[A0T] at h;show((Sum.inr n:Key) :: (Ep ns as).map (·.1)).Nodup;rw[A0T];refine⟨λhm=>?_,L8 h.2⟩;obtain⟨kv,hkv,e⟩:=A09.mp hm;obtain⟨p,hp,rfl⟩:=A09.mp hkv;have e':p.1=n:=by injection e
   exact h.1 (e' ▸ (A4B hp).1)
theorem Wi {ns:List Str}{as:List Addr}{z:Str}{a:Addr}(h:ns.length=as.length):Ep (ns++[z]) (as++[a])=Ep ns as++[(Sum.inr z,V.ref a)]:=by unfold Ep;rw[List.zip_append h,A19];rfl
end L2
namespace L2
open PySem PySem.Spec PyProof.Rows
open Classical in
def Av (ps:List (Str×Str))(x y:Str):Bool:=decide (Way ps x y)
theorem wayB_iff {ps:List (Str×Str)}{x y:Str}:Av ps x y=true↔Way ps x y:=by unfold Av;simp
theorem Hm {ps:List (Str×Str)}{x y:Str}(h:¬ Way ps x y):Av ps x y=false:=by
 cases hb:Av ps x y with
 |false=>rfl
 |true=>exact absurd (wayB_iff.mp hb) h
theorem iteR {α:Type}{a:α}{A B:Prop}[Decidable (a=a)](h:A):if decide (a=a)=true then A else B:=by rw[A0Q ∅];exact h
theorem iteNR {α:Type}{a:α}{A B:Prop}[Decidable (a=a)](h:B):if(!decide (a=a))=true then A else B:=by rw[A0L ∅];exact h
theorem iteNbb {b:Bool}{A B:Prop}(h:B):if(!(b==b))=true then A else B:=by rw[A0L ∅];exact h
theorem itebb {b:Bool}{A B:Prop}(h:A):if(b==b)=true then A else B:=by rw[A0Q ∅];exact h
section
variable {K:W.Frag}{H:Hp}{σ:St}{x:V}{Q:VK}
end
end L2
namespace L2
open PySem PySem.Spec PyProof.Rows
open AutoSeq1 (wpAny_loadPart')
section
variable {prog:Program}{w:World}{A:Around}{E:Value->Shared->Prop}{s:Shared}
theorem a60 {it t:Addr}{i:Nat}{items:Array Value}{x:Value}{Q:Value->Shared->Prop}(hit:s.heap.IsTupleIter it t i)(ht:s.heap.IsTuple t items)(hx:items[i]? = some x)
  (hQ:∀ h',h'.IsTupleIter it t (i+1)->Heap.SameBut it s.heap h'->Q x {s with heap:=h'}):wpAny (model prog w) A (Builtin.SmallTypes.nextOf (.ref it)) Q E s:=by
 obtain⟨o,o1,o2,o3⟩:=id hit;obtain⟨u,u1,_,n,u2⟩:=ht;unfold Builtin.SmallTypes.nextOf;refine A00 (A2H (name:=Str.ofString "__next__") hit.typeIs F.slot_tuple_iterator_next (A2Z F.slot_tuple_iterator_next hit.typeIs F.entry_tuple_iterator_next ?_ (F.args_tuple_iterator_next_1 _)));refine A00 (m:=field (.ref it) 0) (A16 o1 o3 (x:=.ref t) rfl ?_);rw[A0L (show ¬ ((Value.ref t==Value.none)=true) by intro h;cases h)];refine A00 (m:=field (.ref it) 1) (A16 o1 o3 (x:=.int i 0) rfl ?_);refine A00 (m:=seqItems? (.ref t)) (A1Y u1 u2 ?_);simp only[Int.toNat_natCast,hx];refine A00 (A4R o1 o3 ∅ (A04 ⟨x,rfl,A04 (hQ _ ⟨_,A2S _ o1 (A2T (A37 o3 _)),(Obj.cls_mapFields ..).trans o2,?_⟩ (Heap.SameBut.update ..))⟩));rw[A37 o3];simp[rawInt]
theorem ac1 {it t:Addr}{i:Nat}{items:Array Value}{Q:Value->Shared->Prop}(hh:A.handled=none)(hit:s.heap.IsTupleIter it t i)(ht:s.heap.IsTuple t items)(hx:items[i]? = none)
  (hE:∀ h' e,Heap.ExtBut it s.heap h'->(∃ o,h'.get? e=some o/\o.cls = .type "StopIteration")->E (.ref e) {s with heap:=h'}):wpAny (model prog w) A (Builtin.SmallTypes.nextOf (.ref it)) Q E s:=by
 obtain⟨o,o1,o2,o3⟩:=id hit;obtain⟨u,u1,_,n,u2⟩:=ht;unfold Builtin.SmallTypes.nextOf;refine A00 (A2H (name:=Str.ofString "__next__") hit.typeIs F.slot_tuple_iterator_next (A2Z F.slot_tuple_iterator_next hit.typeIs F.entry_tuple_iterator_next ?_ (F.args_tuple_iterator_next_1 _)));refine A00 (m:=field (.ref it) 0) (A16 o1 o3 (x:=.ref t) rfl ?_);rw[A0L (show ¬ ((Value.ref t==Value.none)=true) by intro h;cases h)];refine A00 (m:=field (.ref it) 1) (A16 o1 o3 (x:=.int i 0) rfl ?_);refine A00 (m:=seqItems? (.ref t)) (A1Y u1 u2 ?_);simp only[Int.toNat_natCast,hx];refine A00 (A3W (A00 (A4R o1 o3 ∅ ?_)));refine A00 (m:=newExc (.type "StopIteration") []) ?_;simp only[newExc,newTuple];refine A00 (A20 ?_ (by size_fits));refine wpAny_bind (m:=firstArgMember _ _) (wpAny_of_eq (a:=Value.none) (by first | rfl | (simp only[firstArgMember];rfl)) (wpAny_newObj_type ?_ (by size_fits)))
 simp only[raiseNew];refine A00 (wpAny_handled ?_)
 first | rw[show A.in1.handled=none from hh] | rw[hh]
 refine A00 (A04 (wpAny_throw (hE _ _ (((Heap.SameBut.update ..).extBut.push _).push _) ⟨_,A0E _ rfl,rfl⟩)))
theorem Kp (hh:A.handled=none)(it t:Addr)(hne:t≠it)(items:Array Value):Draws prog w A it [it,t] items.size (λi v=>items[i]? = some v) (λi h=>h.IsTupleIter it t i/\h.IsTuple t items) where
 live:=λ_ _ q=>let ⟨o,ho,_⟩:=q.1;⟨o,ho⟩
 frame:=λ_ _ _ q hk=>⟨q.1.at λo e=>hk it ∅ o e,let ⟨o,ho,r⟩:=q.2;⟨o,hk t ∅ o ho,r⟩⟩
 item:=λi s Q E hi q hQ=>a60 q.1 q.2 (x:=items[i]) (by simp[hi]) λh' a b=>hQ _ h' s.toks (by simp[hi]) ⟨a,q.2.extBut b.extBut hne⟩ b
 done:=λs Q E q hE=>ac1 hh q.1 q.2 ∅ hE
theorem Oy (l:Addr)(items:Array Value)(n:Nat)(dct:Option Addr)(sl:Array (Option Value)) :
  Meets (Builtin.«enumerate.__new__» ⟨[.type "enumerate",.ref l],[]⟩) (λ_ R s=>s.heap.get? l=some {cls:=.type "tuple",dict:=dct,data:=.seq items n,slots:=sl} /\
   R (.ok (.ret (.ref (s.heap.push {cls:=.type "tuple_iterator",data:=.fields #[.ref l,.int 0 0]}).objs.size)))
    {s with heap:=(s.heap.push {cls:=.type "tuple_iterator",data:=.fields #[.ref l,.int 0 0]}).push {cls:=.type "enumerate",data:=.fields #[.none,.bool false,.ref s.heap.objs.size,rawInt 0,.none,.none]}}):=
 .of_wp λprog w A R s h=>by
  obtain⟨hp,g,d,tk,os⟩:=s;obtain⟨hl,h⟩:=h;have hsub:=sub_enumerate;have hT:Heap.IsTuple (Shared.heap ⟨hp,g,d,tk,os⟩) l items:=⟨_,hl,rfl,n,rfl⟩
  wp_walk using wpAny_loadPart' hl
  refine wpAny_stack_any λst=>A04 ?_
  split
  . rename_i c _ _ _ _ _
    cases (c==Value.type "enumerate")<;>(wp_walk using wpAny_loadPart' hl,A27 hT;exact⟨_,rfl,h⟩)
  wp_walk using wpAny_loadPart' hl,A27 hT
  exact⟨_,rfl,h⟩
theorem Qh {l:Addr}{items:Array Value}{Q:Value->Shared->Prop}(hL:s.heap.IsTuple l items)
  (h:∀ h',IsEnum h' (s.heap.objs.size+1) s.heap.objs.size 0 .none->h'.IsTupleIter s.heap.objs.size l 0->(∀ b o,s.heap.get? b=some o->h'.get? b=some o)->Q (.ref (s.heap.objs.size+1)) {s with heap:=h'}) :
  wpAny (model prog w) A (call (.type "enumerate") [.ref l]) Q E s:=by
 obtain⟨⟨c,dct,dt,sl⟩,hl,hc,n,hd⟩:=hL;replace hc:c = .type "tuple":=hc;replace hd:dt = .seq items n:=hd;subst hc hd;refine callType_new F.called_enumerate nofun (F.typeCall_enumerate_1 _) (F.newCall_enumerate_1 _) (λobj=>F.args_object_init_2 obj _) F.entry_enumerate_new (Oy l items n dct sl) ⟨hl,?_⟩;have hz:(s.heap.push {cls:=.type "tuple_iterator",data:=.fields #[.ref l,.int 0 0]}).objs.size=s.heap.objs.size+1:=A1G ..;show _/\_;have he:=A0E (s.heap.push {cls:=.type "tuple_iterator",data:=.fields #[.ref l,.int 0 0]}) (o:={cls:=.type "enumerate",data:=.fields #[.none,.bool false,.ref s.heap.objs.size,rawInt 0,.none,.none]}) rfl;rw[hz] at he ⊢;exact⟨⟨_,he,rfl⟩,h _ he ⟨_,A01 _ (A0E _ rfl),rfl,rfl⟩ λb o x=>A01 _ (A01 _ x)⟩
end
theorem Inv.turnedL {X:Cx}{pins:List (Addr×Obj)}{σ:St}{H:Hp}{s:Shared}{h':Heap}{t':Nat}{ch:List Addr}(I:Inv X pins σ H s)(k:∀ b o,b∉ch->s.heap.get? b=some o->h'.get? b=some o)(hf:∀ b∈ch,Pn X pins H b):Inv X pins σ H {s with heap:=h',toks:=t'}:=by
 have nit:∀ b u,H b=some u->b∉ch:=λb u e z=>by rw[(hf b z).1] at e;cases e
 refine I.step (g':=s.gens) (d':=s.drawn) (ch:=ch) (λb hb=>?_) (λb o _ _ hc e _=>k b o hc e) (λb o _ _ hc e _=>⟨o.slots,k b o hc e⟩) (λ_ _ _ _ n=>n)
  (λb o hc e=>⟨o,k b o hc e⟩) (λ_ _ e=>e) (λ_ _ _ e=>e) (λb ps e=>⟨#[],by rw[e];simp⟩) (λm hm=>?_) (λb u e=>?_) I.bare
 . obtain⟨_,h2,_,h4,h5,h6⟩:=hf b hb;exact⟨h4,h2,h5,h6⟩
 . obtain⟨o,es,ep,ho,r⟩:=hm;exact⟨o,es,ep,k _ o (λz=>(hf _ z).2.1 rfl) ho,r⟩
 refine(I.hok b u e).stay (λc v hc q=>k c v ?_ q) (λ_ q=>q) λ_ _ q=>q;rcases hc with z|z
 . rw[z];exact nit b u e
 exact nit c _ z
def Ite (K:W.Frag)(a:Addr):It:=
 ⟨λi H=>∃ xs x,SqT K H a xs/\xs[i]? = some x,λi H v H'=>∃ t x,H t=none/\H'=upd H t (.tup [.int i,x])/\v = .ref t/\∀ xs,SqT K H a xs->xs[i]? = some x,λi H=>∃ xs,SqT K H a xs/\xs.length=i⟩
theorem V0 {P:Program}{w:World}{K:W.Frag}{elts:List Expr}{ek:Nat}{epos:Pos}(a it e:Addr)(hei:e≠it)(hai:a≠it)(hae:a≠e):V6 P w K (.Tuple elts ek epos) (Ite K a) [e,it] e (λi h=>(∃ old,IsEnum h e it i old)/\h.IsTupleIter it a i) where
 mem:=by simp
 obj:=λi h st b hb=>by
  obtain⟨⟨old,h1⟩,o,h2,h3,h4⟩:=st;rcases A0D.mp hb with rfl|hb
  . exact⟨_,h1,λv z=>by cases z⟩
  have q:b=it:=by simpa using hb
  subst q;exact⟨o,h2,λv z=>by rw[h4] at z;cases z⟩
 keep:=λi h h' st k=>by obtain⟨⟨old,h1⟩,h2⟩:=st;exact⟨⟨old,k e ∅ _ h1⟩,h2.at λo q=>k it ∅ o q⟩
 item:=by
  intro X hP hw hK hc i pins s σ H E I hf st hg;subst hP hw hK;obtain⟨xs,x,hq,hx⟩:=hg;obtain⟨its,rv,p,hz⟩:=I.tuple hq
  have hil:i<its.length:=by have:=(A02.mp hx).1;rw[<- rv.length];exact this
  have D:=Kp (prog:=X.prog) (w:=X.w) (A:=X.A.in1) (by simpa using I.ok.hd hc) it a hai its.toArray;obtain⟨⟨old,he⟩,hit⟩:=st;have hel:e<s.heap.objs.size:=A07 he;have hil':it<s.heap.objs.size:=let ⟨_,q,_⟩:=hit;A07 q;refine wpAny_pyNext_enum_itemD D he ⟨hit,p⟩ (by simpa using hil) hei (by simp[hei,Ne.symm hae]) λv h1 tk hv ho hst hT hsz hk=>?_;obtain⟨u,hu,ru⟩:=rv.get hx
  have hvu:v=u:=by have hv':its.toArray[i]? = some v:=hv;rw[A2U,hu] at hv';exact(A0X hv').symm
  subst hvu;refine⟨_,rfl,wpAny_letOwnedTupleGo_enum ho λh2 he2 hs2=>?_⟩;have hTn:H s.heap.objs.size=none:=I.hok.fresh (A0A _);have hT2:h2.get? s.heap.objs.size=some {cls:=.type "tuple",data:=.seq #[.int i tk,v]}:=(hs2.2 _ (A2Q hel)).trans hT
  have I1:Inv X pins σ (upd H s.heap.objs.size (.tup [.int i,x])) {s with heap:=s.heap.push {cls:=.type "tuple",data:=.seq #[.int i tk,v]}}:=
   I.laid (t':=s.toks) (λb ob q=>Heap.get?_push_of_some _ q) (Nat.le_refl _) ⟨by simp[sizeLine_eq],[.int i tk,v],.cons ⟨tk,rfl⟩ (.cons ru .nil),_,Heap.get?_push_size _ rfl,rfl,⟨_,rfl⟩,rfl⟩
  have nT:∀ b∈[e,it],b≠s.heap.objs.size:=λb hb=>by
   rcases A0D.mp hb with rfl|hb
   . exact A0O hel
   have q:b=it:=by simpa using hb
   subst q;exact A0O hil'
  have I2:Inv X pins σ (upd H s.heap.objs.size (.tup [.int i,x])) {s with heap:=h2,toks:=tk+1}:=Inv.turnedL (s:={s with heap:=s.heap.push {cls:=.type "tuple",data:=.seq #[.int i tk,v]}}) (ch:=[e,it]) I1 (λb ob hb q=>?_) (λb hb=>?_)
  . refine⟨.ref s.heap.objs.size,_,I2,rfl,⟨_,x,hTn,rfl,rfl,λys hy=>by rw[I.tuple_inj hy hq];exact hx⟩,⟨⟨_,by simpa using he2⟩,hst.1.at λo q=>(hs2.2 it (Ne.symm hei)).trans q⟩,λb hb=>?_⟩;rw[Al (nT b hb)];exact(hf b hb).1
  . have hbe:b≠e:=λz=>hb (by simp[z]);have hbi:b≠it:=λz=>hb (by simp[z]);rcases Heap.get?_push_cases q with ⟨rfl,rfl⟩|q
    . exact hT2
    exact(hs2.2 b hbe).trans (hk b ob hbe hbi q)
  obtain⟨f0,f1,f2,f3,f4,f5⟩:=hf b hb;exact⟨by rw[Al (nT b hb)];exact f0,f1,f2,f3,f4,f5⟩
 done:=by
  intro X hP hw hK hc i pins s σ H E I hf st hg;subst hP hw hK;obtain⟨xs,hq,hx⟩:=hg;obtain⟨its,rv,p,hz⟩:=I.tuple hq;obtain⟨⟨old,he⟩,hit⟩:=st;have hlen:its.toArray.size=i:=by rw[A0N,<- rv.length];exact hx
  have D:=Kp (prog:=X.prog) (w:=X.w) (A:=X.A.in1) (by simpa using I.ok.hd hc) it a hai its.toArray;rw[hlen] at D;refine wpAny_pyNext_enum_endD D he ⟨hit,p⟩ λh' hk=>⟨rfl,I.turnedL (t':=s.toks) (ch:=[e,it]) (λb o hb q=>hk b o (λz=>hb (by simp[z])) q) hf⟩
 self:=by intro A i s Q E st hQ;obtain⟨⟨old,he⟩,_⟩:=st;exact wpAny_pyIter_enum he hQ
section
variable {X:Cx}{K:W.Frag}
def a65 (K:W.Frag)(vs:List V)(H:Hp)(R:It->Hp->Prop):Prop:=∃ a xs,vs=[.ref a]/\SqT K H a xs/\R (Ite K a) H
def af7 (K:W.Frag)(ta:TA):TI:=fun σ H R=>ta σ H λvs H1=>a65 K vs H1 R
theorem K3:bootBuiltins "enumerate" = some (.type "enumerate"):=PyProof.Rows.Boot.«enumerate»
theorem Uh {e:Expr}{ta:TA}{p pos:Pos}{elts:List Expr}{ek:Nat}{epos:Pos}(hg:Gl X "enumerate")(hm:X.mg "enumerate" = none)(ha:PA X [e] ta)(hK:X.K=K:=by ac_nf)(hs:starEach [e] X.env=[(false,eval e X.env)]:=by ac_nf) :
  PI X (.Tuple elts ek epos) (.Call (.Name "enumerate" p) [e] [] pos) (af7 K ta):=by
 subst hK;intro pins s σ H R I h;refine Call_ (Hr I hg hm K3 (A22 (thn (ha pos pins s σ H _ I h) λus s1 ⟨vs,H1,I1,r1,q1⟩=>?_) hs rfl));obtain⟨a,xs,rfl,hq,q⟩:=q1;obtain⟨u,rfl,ru⟩:=Vals.one r1
 cases ru;obtain⟨its,rv,ht,hz⟩:=I1.tuple hq;have hal:a<s1.heap.objs.size:=let ⟨_,q,_⟩:=ht;A07 q;refine Qh ht λh' he hit hk=>?_;refine wpAny_pyIter_enum he ?_;refine⟨s1.heap.objs.size+1,[s1.heap.objs.size+1,s1.heap.objs.size],_,_,H1,rfl,I1.kept (t':=s1.toks) hk,V0 a s1.heap.objs.size (s1.heap.objs.size+1) (Nat.succ_ne_self _) (A0O hal) (A0O (A3X hal)),⟨⟨_,he⟩,hit⟩,λb hb=>?_,q⟩;rcases A0D.mp hb with rfl|hb
 . exact I1.fpOk (A3C _) (I1.hok.fresh (A3C _))
 have e:b=s1.heap.objs.size:=by simpa using hb
 subst e;exact I1.fpOk (A0A _) (I1.hok.fresh (A0A _))
end
section
variable {K:W.Frag}{σ:St}{H:Hp}
theorem i_ienum {ts:TA}{R:It->Hp->Prop}(k:ts σ H λvs H1=>a65 K vs H1 R):af7 K ts σ H R:=k
theorem Q2 {xs:List V}{a:Addr}{n m:Nat}{tb:TS}{D:Ends}(h:SqT K H a xs)(Pv:Nat->St->Hp->Prop)(h0:Pv 0 σ H)(hG:∀ i σ' H',Pv i σ' H'->SqT K H' a xs)
  (hs:∀ i x σ' H' H2,xs[i]? = some x->Pv i σ' H'->Same H' H2->tb {D with nx:=Pv (i+1),ct:=Pv (i+1),bk:=D.nx} ((σ'.set n (some (.int i))).set m (some x)) H2) (hd:∀ σ' H',Pv xs.length σ' H'->D.nx σ' H') :
  a65 K [.ref a] H λJ H1=>a25 (a73 K 2 (O1 (Hf n) (O1 (Hf m) ah4))) tb D σ J H1:=by
 refine⟨a,xs,rfl,h,λi k σ' H'=>k=xs.length-i/\i<=xs.length/\Pv i σ' H',⟨xs.length,by simp,Nat.zero_le _,h0⟩,?_⟩;rintro i k σ' H' ⟨rfl,hi,p⟩;have g:=hG i σ' H' p
 by_cases hlt:i<xs.length
 . refine .inr ⟨⟨xs,xs[i],g,A03 hlt⟩,Pv (i+1),fun σ2 H2 p2=>⟨xs.length-(i+1),by omega,rfl,hlt,p2⟩,λv H2 y=>?_⟩;obtain⟨t,x,ht,rfl,rfl,hx⟩:=y;exact⟨t,_,rfl,SqT.of Aa,rfl,.int i,[x],rfl,x,[],rfl,rfl,hs i x σ' H' _ (hx xs g) p (Same.upd ht)⟩
 have e:i=xs.length:=by omega
 subst e;exact .inl ⟨⟨xs,g,rfl⟩,hd σ' H' p⟩
end
end L2
namespace L2
open PySem PySem.Spec PyProof.Rows
section
variable {X:Cx}{K:W.Frag}
section
variable {H:Hp}{Q:VK}{lo hi:Option Int}
theorem Yb {a b:Addr}{xs ys:List V}(h1:SqT K H a xs)(h2:SqT K H b ys)(h:xs.length+ys.length<=sizeLine)(k:∀ p H',Same H H'->SqT K H' p (xs++ys)->Q (.ref p) H'):Qk K (.ref a) (.ref b) H Q:=by
 by_cases hx:xs=[]
 . subst hx;exact .inr (.inr (.inr (.inr ⟨a,b,ys,rfl,rfl,h1,h2,k b H (Same.refl _) h2⟩)))
 refine .inr (.inr (.inr (.inl ⟨a,b,xs,ys,rfl,rfl,h1,h2,hx,h,λe=>?_,λ_ p hp=>k p _ (Same.upd hp) (SqT.of Aa)⟩)));subst e;exact k a H (Same.refl _) (by rw[A33];exact h1)
theorem Qr {a:Addr}{xs:List V}(h:SqT K H a xs)(k:∀ p H',Same H H'->SqT K H' p (O7 xs lo hi)->Q (.ref p) H'):aa6 K (.ref a) lo hi H Q:=by
 by_cases hw:HT.sIx xs.length 0 lo=0/\HT.sIx xs.length xs.length hi=xs.length
 . refine .inr (.inr (.inr ⟨a,xs,rfl,h,hw,k a H (Same.refl _) ?_⟩))
   have e:O7 xs lo hi=xs:=by unfold O7;rw[hw.1,hw.2,List.drop_zero,Nat.sub_zero,A1E]
   rw[e];exact h
 exact .inr (.inl ⟨a,xs,rfl,h,hw,λp hp=>k p _ (Same.upd hp) (SqT.of Aa)⟩)
theorem af9 {x y:V}{d:PyData}{ds:List PyData}(hx:Is K H d x)(hy:Is K H (.list ds) y\/Is K H (.tuple ds) y)(h1:PyData.canLayAll0 ds=true)(h2:d.canLay0=true)(h3:d.depth<=100)(k:Q (.bl (ds.any λe=>PyData.eqv e d)) H):Va K false x y H Q:=.inr (.inr (.inr ⟨d,ds,hx,hy,h1,h2,h3,k⟩))
end
end
structure Trl (ps:List (Str×Str))(x:Str)(js:List Nat)(y:Str)(os:List Str):Prop where
 len:os.length=js.length
 hd:(os++[y])[0]? = some x
 ed:∀(i j:Nat),js[i]? = some j->∃ a b,(os++[y])[i]? = some a/\(os++[y])[i+1]? = some b/\ps[j]? = some (a,b)
 nd:(os++[y]).Nodup
theorem Trl.nil (ps:List (Str×Str))(x:Str):Trl ps x [] x []:=⟨rfl,rfl,λi j h=>by simp at h,by simp⟩
theorem Trl.snoc {ps:List (Str×Str)}{x y z:Str}{js:List Nat}{os:List Str}{j:Nat}(h:Trl ps x js y os)(hj:ps[j]? = some (y,z))(hz:z∉os++[y]):Trl ps x (js++[j]) z (os++[y]):=by
 refine⟨by simp[h.len],?_,λi k hk=>?_,?_⟩
 . rw[A1K ∅];exact h.hd
 . by_cases hi:i<js.length
   . rw[A1K hi] at hk;obtain⟨a,b,h1,h2,h3⟩:=h.ed i k hk;have l:=h.len;refine⟨a,b,?_,?_,h3⟩
     . rw[List.getElem?_append_left (by simp;omega)];exact h1
     rw[List.getElem?_append_left (by simp;omega)];exact h2
   have hi':i=js.length:=by have:=(A02.mp hk).1;rw[A0H,A1F] at this;omega
   subst hi';have e:k=j:=by simpa using hk.symm
   subst e;have l:=h.len;refine⟨y,z,?_,?_,hj⟩
   . rw[List.getElem?_append_left (by simp;omega),<- l];simp
   rw[<- l];simp
 rw[A1A];refine⟨h.nd,by simp,λa ha b hb e=>?_⟩;have:b=z:=by simpa using hb
 subst this;subst e;exact hz ha
theorem Trl.mono {ps qs:List (Str×Str)}{x y:Str}{js:List Nat}{os:List Str}(h:Trl ps x js y os)(hm:∀(j:Nat) p,ps[j]? = some p->qs[j]? = some p):Trl qs x js y os:=
 ⟨h.len,h.hd,λi j hj=>let ⟨a,b,h1,h2,h3⟩:=h.ed i j hj;⟨a,b,h1,h2,hm j _ h3⟩,h.nd⟩
theorem Trl.way {ps:List (Str×Str)}:∀ {js:List Nat} {x y:Str} {os:List Str},Trl ps x js y os->x=y\/Way ps x y:=by
 intro js x y os h;have l:=h.len
 suffices g:∀ i,i<=js.length->∀ z,(os++[y])[i]? = some z->z=x\/Way ps x z by
  rcases g js.length (Nat.le_refl _) y (by rw[<- l];simp) with e|e
  . exact .inl e.symm
  exact .inr e
 intro i
 induction i with
 |zero=>intro _ z hz;rw[h.hd] at hz;exact .inl (A0X hz).symm
 |succ i ih=>
   intro hi z hz;obtain⟨j,hj⟩:∃ j,js[i]? = some j:=⟨js[i]'(by omega),A03 _⟩;obtain⟨a,b,h1,h2,h3⟩:=h.ed i j hj;rw[hz] at h2
   cases h2;rcases ih (by omega) a h1 with e|e
   . subst e;exact .inr (.one (A06 h3))
   exact .inr (e.snoc (A06 h3))
theorem Way.more {ps:List (Str×Str)}{p:Str×Str}{x y:Str}(h:Way (ps++[p]) x y):Way ps x y\/((x=p.1\/Way ps x p.1)/\(y=p.2\/Way ps p.2 y)):=by
 induction h with
 |@one a b e=>
   rcases A08.mp e with e|e
   . exact .inl (.one e)
   have:(a,b)=p:=by simpa using e
   subst this;exact .inr ⟨.inl rfl,.inl rfl⟩
 |@cons a c b e _ ih=>
   rcases A08.mp e with e|e
   . rcases ih with g|⟨g1,g2⟩
     . exact .inl (.cons e g)
     refine .inr ⟨.inr ?_,g2⟩;rcases g1 with rfl|g1
     . exact .one e
     exact .cons e g1
   have:(a,c)=p:=by simpa using e
   subst this;rcases ih with g|⟨g1,g2⟩
   . exact .inr ⟨.inl rfl,.inr g⟩
   exact .inr ⟨.inl rfl,g2⟩
theorem Ng {ps:List (Str×Str)}{p:Str×Str}(h:∀ x,¬ Way ps x x)(h1:¬ p.2=p.1)(h2:¬ Way ps p.2 p.1):∀ x,¬ Way (ps++[p]) x x:=λx g=>by
 rcases g.more with g|⟨g1,g2⟩
 . exact h x g
 rcases g1 with rfl|g1
 . rcases g2 with g2|g2
   . exact h1 g2.symm
   exact h2 g2
 rcases g2 with rfl|g2
 . exact h2 g1
 exact h2 (g2.trans g1)
structure WyI (ps:List (Str×Str))(x:Str)(ks ws:List Str):Prop where
 nd:ks.Nodup
 has:x∈ks
 way:∀ y∈ks,y=x\/Way ps x y
 line:∀ z∈ws,z∈ks
 shut:∀ z∈ks,z∉ws->∀ y,(z,y)∈ps->y∈ks
 few:ws.length<=ks.length
theorem WyI.le {ps:List (Str×Str)}{x:Str}{ks ws:List Str}(h:WyI ps x ks ws):ks.length<=ps.length+1:=by
 have:=B3 (ys:=x :: ps.map (·.2)) h.nd λy hy=>by
  rcases h.way y hy with e|e
  . exact e ▸ A0J
  exact A0C _ e.right
 rwa[A0F,A05] at this
structure WyJ (ps:List (Str×Str))(x here:Str)(ks ws gs ms:List Str)(i:Nat):Prop where
 nd:gs.Nodup
 way:∀ y∈gs,y=x\/Way ps x y
 line:∀ z∈ms,z∈gs
 keep:∀ z∈ks,z∈gs
 keepL:∀ z∈ws,z∈ms
 new:∀ z∈gs,z∈ks\/z∈ms
 seen:∀ j<i,∀ y,ps[j]? = some (here,y)->y∈gs
 len:gs.length+ws.length=ks.length+ms.length
theorem WyJ.le {ps:List (Str×Str)}{x here:Str}{ks ws gs ms:List Str}{i:Nat}(h:WyJ ps x here ks ws gs ms i):gs.length<=ps.length+1:=by
 have:=B3 (ys:=x :: ps.map (·.2)) h.nd λy hy=>by
  rcases h.way y hy with e|e
  . exact e ▸ A0J
  exact A0C _ e.right
 rwa[A0F,A05] at this
theorem WyJ.step {ps:List (Str×Str)}{x here:Str}{ks ws gs ms:List Str}{i:Nat}{p:Str×Str}(h:WyJ ps x here ks ws gs ms i)(hh:here∈gs)(hp:ps[i]? = some p)(h1:p.1=here)(h2:p.2∉gs):WyJ ps x here ks ws (gs++[p.2]) (ms++[p.2]) (i+1):=by
 have hm:(here,p.2)∈ps:=by rw[<- h1];exact A06 hp
 refine⟨?_,λy hy=>?_,λz hz=>?_,λz hz=>A0M _ (h.keep z hz),λz hz=>A0M _ (h.keepL z hz),λz hz=>?_,λj hj y e=>?_,?_⟩
 . rw[A1A];refine⟨h.nd,by simp,λa ha b hb e=>?_⟩;have:b=p.2:=by simpa using hb
   subst this;subst e;exact h2 ha
 . rcases A08.mp hy with hy|hy
   . exact h.way y hy
   have:y=p.2:=by simpa using hy
   subst this;rcases h.way here hh with rfl|hw
   . exact .inr (.one hm)
   exact .inr (hw.snoc hm)
 . rcases A08.mp hz with hz|hz
   . exact A0M _ (h.line z hz)
   exact A0K _ hz
 . rcases A08.mp hz with hz|hz
   . rcases h.new z hz with e|e
     . exact .inl e
     exact .inr (A0M _ e)
   exact .inr (A0K _ hz)
 . by_cases hji:j=i
   . subst hji;rw[hp] at e
     cases e;exact A0K _ ∅
   exact A0M _ (h.seen j (by omega) y e)
 rw[A0H,A0H,A1F];have:=h.len;omega
theorem WyJ.done {ps:List (Str×Str)}{x here:Str}{ks ws gs ms:List Str}(I:WyI ps x ks (here :: ws))(h:WyJ ps x here ks ws gs ms ps.length):WyI ps x gs ms:=by
 refine⟨h.nd,h.keep x I.has,h.way,h.line,λz hz hm y hy=>?_,?_⟩
 . by_cases e:z=here
   . subst e;obtain⟨j,hj,ej⟩:=A1V hy;exact h.seen j hj y (by rw[A03 hj,ej])
   have hz':z∈ks:=by
    rcases h.new z hz with q|q
    . exact q
    exact absurd q hm
   refine h.keep y (I.shut z hz' (λq=>?_) y hy);rcases A0D.mp q with q|q
   . exact e q
   exact hm (h.keepL z q)
 have:=h.len;have:=I.few;rw[A0F] at this;omega
theorem WyI.all {ps:List (Str×Str)}{x:Str}{ks:List Str}(h:WyI ps x ks []){y:Str}(g:Way ps x y):y∈ks:=
 Way.shut (S:=λy=>y∈ks) (λy hy=>h.shut x h.has ∅ y hy) (λz y hz hy=>h.shut z hz ∅ y hy) g
section
variable {K:W.Frag}{σ:St}{H:Hp}{Q:VK}{td ty:TE}
def a85 (ty:TE)(σ:St)(x:V)(H1:Hp)(Q:VK):Prop:=∃ a,x = .ref a/\IsD H1 a/\ty σ H1 λy H2=>∃ o,DGet H2 a y o/\Q (o.getD .non) H2
theorem i_dget1 (k:td σ H λx H1=>a85 ty σ x H1 Q):aj0 td ty σ H Q:=k
theorem i_chain {r r':R2}{ta tb tc:TE}(k:ta σ H λx H1=>tb σ H1 λy H2=>r x y H2 λz H3=>∃ k,z = .bl k/\(if k=true then tc σ H3 λw' H4=>r' y w' H4 Q else Q (.bl false) H3)):Y2 r r' ta tb tc σ H Q:=k
theorem i_andV {ta tb:TE}(k:ta σ H λx H1=>∃ c,x = .bl c/\if c=true then tb σ H1 Q else Q (.bl false) H1):ai3 ta tb σ H Q:=k
theorem i_orV {ta tb:TE}(k:ta σ H λx H1=>∃ c,x = .bl c/\if c=true then Q (.bl true) H1 else tb σ H1 Q):as5 ta tb σ H Q:=k
theorem i_notV {ta:TE}(k:ta σ H λx H1=>∃ c,x = .bl c/\Q (.bl (!c)) H1):ac3 ta σ H Q:=k
theorem aa0 {a:Addr}{bs:List Bool}(h:SqL K H a (bs.map V.bl))(k:Q (.bl (!bs.any id)) H):Va K true (.bl true) (.ref a) H Q:=.inl ⟨a,_,rfl,.inl h,rfl,by
  rw[A0W];intro v h;obtain⟨n,_,rfl⟩:=A09.mp h;rfl,by
  have e:inV (.bl true) (bs.map V.bl)=bs.any id:=by
   clear h k;unfold inV
   induction bs with
   |nil=>rfl
   |cons b bs ih=>
     rw[A0I,A2I,A2I,ih]
     cases b<;>rfl
  rw[e];exact k⟩
end
theorem Same.rd {H H':Hp}(e:Same H H'){a:Addr}{u:HO}(h:Rd H a u):Rd H' a u:=by
 rcases h with h|⟨o,h⟩
 . exact .inl (e _ _ h)
 exact .inr ⟨o,e _ _ h⟩
def Keep (as:List Addr)(H H':Hp):Prop:=(∀ b o,b∉as->H b=some o->H' b=some o)/\∀ a∈as,∀ u,Rd H a u->Rd H' a u
theorem Keep.refl (as:List Addr)(H:Hp):Keep as H H:=⟨λ_ _ _ h=>h,λ_ _ _ h=>h⟩
theorem Keep.trans {as:List Addr}{H H1 H2:Hp}(a:Keep as H H1)(b:Keep as H1 H2):Keep as H H2:=⟨λc o n h=>b.1 c o n (a.1 c o n h),λc hc u h=>b.2 c hc u (a.2 c hc u h)⟩
theorem Same.keep {H H':Hp}(e:Same H H')(as:List Addr):Keep as H H':=⟨λb o _ h=>e b o h,λa _ u h=>e.rd h⟩
theorem Keep.freeze {as:List Addr}{H:Hp}{a:Addr}{u:HO}{o:Obj}(ha:a∈as)(h:H a=some u)(hu:∀ o' u',u ≠ .frz o' u'):Keep as H (upd H a (.frz o u)):=by
 refine⟨λb q hb e=>?_,λb hb w e=>?_⟩
 . have hne:b≠a:=λz=>by subst z;exact hb ha
   rw[Al hne];exact e
 by_cases hba:b=a
 . subst hba;rcases e with e|⟨o',e⟩
   . rw[h] at e
     cases e;exact .inr ⟨o,Aa⟩
   rw[h] at e
   cases e;exact absurd rfl (hu _ _)
 rcases e with e|⟨o',e⟩
 . exact .inl (by rw[Al hba];exact e)
 exact .inr ⟨o',by rw[Al hba];exact e⟩
theorem Keep.rd {as:List Addr}{H H':Hp}(k:Keep as H H'){a:Addr}{u:HO}(h:Rd H a u):Rd H' a u:=by
 by_cases ha:a∈as
 . exact k.2 a ha u h
 rcases h with h|⟨o,h⟩
 . exact .inl (k.1 _ _ ha h)
 exact .inr ⟨o,k.1 _ _ ha h⟩
theorem Keep.fz {as:List Addr}{H H':Hp}(k:Keep as H H'):Fz H H':=λa xs h=>k.rd h
theorem Keep.lst {as:List Addr}{H H1 H2:Hp}{p:Addr}(k:Keep as H H1)(e:ExtBut p H1 H2)(hp:H p=none)(hpa:p∉as):Keep as H H2:=by
 refine⟨λb o hb h=>e b o (λz=>?_) (k.1 b o hb h),λa ha u h=>?_⟩
 . subst z;rw[hp] at h
   cases h
 have hap:a≠p:=λz=>hpa (z ▸ ha);rcases k.2 a ha u h with g|⟨o,g⟩
 . exact .inl (e _ _ hap g)
 exact .inr ⟨o,e _ _ hap g⟩
structure TabR (H:Hp)(r:Addr)(ns:List Str)(as:List Addr)(R:Str->Str->Prop):Prop where
 len:as.length=ns.length
 top:Rd H r (.dK (Ep ns as))
 row:∀(i:Nat) (z:Str) (a:Addr),ns[i]? = some z->as[i]? = some a->∃ ks:List Str,Rd H a (.dK (E2 ks))/\ks.Nodup/\(∀ y∈ks,y∈ns)/\∀ y,y∈ks↔R z y
theorem Tab.toR {H:Hp}{r:Addr}{ns:List Str}{as:List Addr}{R:Str->Str->Prop}(h:Tab H r ns as R):TabR H r ns as R:=
 ⟨h.len,.inl h.top,λi z a hz ha=>let ⟨ks,h1,h2⟩:=h.row i z a hz ha;⟨ks,.inl h1,h2⟩⟩
theorem TabR.keep {bs:List Addr}{H H':Hp}{r:Addr}{ns:List Str}{as:List Addr}{R:Str->Str->Prop}(h:TabR H r ns as R)(k:Keep bs H H'):TabR H' r ns as R:=
 ⟨h.len,k.rd h.top,λi z a hz ha=>let ⟨ks,h1,h2⟩:=h.row i z a hz ha;⟨ks,k.rd h1,h2⟩⟩
theorem TabR.same {H H':Hp}{r:Addr}{ns:List Str}{as:List Addr}{R:Str->Str->Prop}(h:TabR H r ns as R)(e:Same H H'):TabR H' r ns as R:=h.keep (e.keep [])
theorem TabR.at {H:Hp}{r:Addr}{ns:List Str}{as:List Addr}{R:Str->Str->Prop}(h:TabR H r ns as R){x:Str}(hx:x∈ns):∃(i:Nat) (a:Addr),ns[i]? = some x/\as[i]? = some a:=by
 obtain⟨i,hi,e⟩:=A1V hx;have hi':i<as.length:=by rw[h.len];exact hi
 exact⟨i,as[i],by rw[A03 hi,e],A03 hi'⟩
structure TabL (K:W.Frag)(H:Hp)(r:Addr)(ns:List Str)(as:List Addr)(R:Str->Str->Prop):Prop where
 len:as.length=ns.length
 top:H r=some (.dK (Ep ns as))
 row:∀(i:Nat) (z:Str) (a:Addr),ns[i]? = some z->as[i]? = some a->∃ ks:List Str,H a=some (.lst (ks.map V.str))/\ks.Nodup/\∀ y,y∈ks↔R z y
theorem TabL.same {K:W.Frag}{H H':Hp}{r:Addr}{ns:List Str}{as:List Addr}{R:Str->Str->Prop}(h:TabL K H r ns as R)(e:Same H H'):TabL K H' r ns as R:=
 ⟨h.len,e _ _ h.top,λi z a hz ha=>let ⟨ks,h1,h2⟩:=h.row i z a hz ha;⟨ks,e _ _ h1,h2⟩⟩
theorem TabL.at {K:W.Frag}{H:Hp}{r:Addr}{ns:List Str}{as:List Addr}{R:Str->Str->Prop}(h:TabL K H r ns as R){x:Str}(hx:x∈ns):∃(i:Nat) (a:Addr),ns[i]? = some x/\as[i]? = some a:=by
 obtain⟨i,hi,e⟩:=A1V hx;have hi':i<as.length:=by rw[h.len];exact hi
 exact⟨i,as[i],by rw[A03 hi,e],A03 hi'⟩
section
variable {K:W.Frag}{σ:St}{H:Hp}{Q:VK}{r:Addr}{ns:List Str}{as:List Addr}{R:Str->Str->Prop}
theorem aj5 {a:Addr}{kvs:List (Key×V)}{z:Str}{v:V}(h:Rd H a (.dK kvs))(e:Cf kvs (Sum.inr z:Key)=some v)(k:Q v H):Qx K (.ref a) (.str z) H Q:=.inr ⟨a,v,rfl,.inl ⟨kvs,Sum.inr z,h,rfl,e.symm⟩,k⟩
theorem Yn {x:Str}{i:Nat}{a:Addr}(h:TabR H r ns as R)(hn:ns.Nodup)(hx:ns[i]? = some x)(ha:as[i]? = some a)(k:Q (.ref a) H):Qx K (.ref r) (.str x) H Q:=aj5 h.top (Io hn hx ha) k
theorem Xb {a:Addr}{ks:List Str}{y:Str}(h:Rd H a (.dK (E2 ks)))(k:Q (.bl (decide (y∈ks))) H):Va K false (.str y) (.ref a) H Q:=by
 refine .inr (.inr (.inl ⟨a,Cf (E2 ks) (Sum.inr y:Key),rfl,.inl ⟨_,Sum.inr y,h,rfl,rfl⟩,?_⟩));rw[G7]
 by_cases e:y∈ks
 . simpa[e] using k
 simpa[e] using k
theorem T7 {as:List Addr}{a:Addr}{kvs:List (Key×V)}{R:It->Hp->Prop}(h:Rd H a (.dK kvs))(ha:a∈as)(k:∀ o H',Keep as H H'->H' a=some (.frz o (.dK kvs))->R (Itd a o kvs) H'):El K (.ref a) H R:=by
 rcases h with h|⟨o,h⟩
 . exact an3 h λo=>k o _ (Keep.freeze ha h λ_ _ z=>by cases z) Aa
 exact al1 h (k o H (Keep.refl _ _) h)
end
def clR (ns:List Str)(ps:List (Str×Str))(x:Str):List (Str×Str):=(ns.filter λy=>Av ps x y).map λy=>(x,y)
def clP (ns:List Str)(ps:List (Str×Str)):List (Str×Str):=ns.flatMap (clR ns ps)
def thB (ns:List Str)(ps:List (Str×Str))(p:Str×Str):Bool:=ns.any λz=>Av ps p.1 z&&Av ps z p.2
def baP (ns:List Str)(ps:List (Str×Str)):List (Str×Str):=(clP ns ps).filter λp=>!thB ns ps p
def unB (ps:List (Str×Str))(x y:Str):Bool:=!Av ps x y && !Av ps y x
def unR (ns:List Str)(ps:List (Str×Str))(i:Nat):List (Str×Str):=((ns.drop (i+1)).filter λy=>unB ps (ns.getD i "") y).map λy=>(ns.getD i "",y)
def unK (ns:List Str)(ps:List (Str×Str))(k:Nat):List (Str×Str):=(List.range k).flatMap (unR ns ps)
def unP (ns:List Str)(ps:List (Str×Str)):List (Str×Str):=unK ns ps ns.length
theorem mem_clR {ns:List Str}{ps:List (Str×Str)}{x:Str}{p:Str×Str}:p∈clR ns ps x↔p.1=x/\p.2∈ns/\Way ps x p.2:=by
 unfold clR;rw[A09];constructor
 . rintro⟨y,hy,rfl⟩;rw[A13,wayB_iff] at hy;exact⟨rfl,hy⟩
 rintro⟨h1,h2⟩;refine⟨p.2,?_,by rw[<- h1]⟩;rw[A13,wayB_iff];exact h2
theorem mem_clP {ns:List Str}{ps:List (Str×Str)}{p:Str×Str}:p∈clP ns ps↔p.1∈ns/\p.2∈ns/\Way ps p.1 p.2:=by
 unfold clP;rw[A45];constructor
 . rintro⟨x,hx,hp⟩;obtain⟨rfl,h⟩:=mem_clR.mp hp;exact⟨hx,h⟩
 rintro⟨h1,h⟩;exact⟨p.1,h1,mem_clR.mpr ⟨rfl,h⟩⟩
section
variable {K:W.Frag}{H:Hp}{σ:St}
theorem Tab.some {H:Hp}{r:Addr}{ns:List Str}{as:List Addr}{R:Str->Str->Prop}(h:Tab H r ns as R):∀ a∈as,H a≠none:=λa ha e=>by
 obtain⟨i,hi,hq⟩:=A1V ha;have hi':i<ns.length:=by rw[<- h.len];exact hi
 obtain⟨ks,h1,_⟩:=h.row i ns[i] a (A03 hi') (by rw[A03 hi,hq]);rw[e] at h1
 cases h1
end
theorem IsL.perm {α:Type}{K:W.Frag}{H:Hp}{f:α->PyData}{xs ys:List V}(p:ys.Perm xs):∀ {as:List α},IsL K H (as.map f) xs->∃ bs:List α,bs.Perm as/\IsL K H (bs.map f) ys:=by
 induction p with
 |nil=>exact fun {as} h=>⟨as,.refl _,h⟩
 |@cons x l1 l2 _ ih=>
   intro as h
   cases as with
   |nil=>have:=IsL.length h;simp at this
   |cons a as=>
     rw[A0I] at h;simp only[IsL] at h;obtain⟨v,vs,e,h1,h2⟩:=h
     cases e;obtain⟨bs,hb,hL⟩:=ih h2;exact⟨a :: bs,hb.cons a,by rw[A0I];exact .cons h1 hL⟩
 |@swap x y l=>
   intro as h
   cases as with
   |nil=>have:=IsL.length h;simp at this
   |cons a as=>
     cases as with
     |nil=>have:=IsL.length h;simp at this
     |cons b as=>
       rw[A0I,A0I] at h;simp only[IsL] at h;obtain⟨v,vs,e,h1,v2,vs2,e2,h2,h3⟩:=h
       cases e
       cases e2;exact⟨b :: a :: as,.swap a b as,by rw[A0I,A0I];exact .cons h2 (.cons h1 h3)⟩
 |trans _ _ ih1 ih2=>intro as h;obtain⟨bs,hb,hL⟩:=ih2 h;obtain⟨cs,hc,hL2⟩:=ih1 hL;exact⟨cs,hc.trans hb,hL2⟩
def IsRevT (h:Heap)(a l:Addr)(i:Int):Prop:=∃ o,h.get? a=some o/\o.cls = .type "reversed" /\ o.data = .fields #[.ref l,rawInt i]
section
variable {prog:Program}{w:World}{A:Around}{E:Value->Shared->Prop}{s:Shared}
theorem IsRevT.typeIs {a l:Addr}{i:Int}(x:IsRevT s.heap a l i):s.TypeIs (.ref a) "reversed":=let ⟨o,ho,hc,_⟩:=x;⟨o,ho,hc⟩
theorem IsRevT.at {h h':Heap}{a l:Addr}{i:Int}(x:IsRevT h a l i)(e:∀ o,h.get? a=some o->h'.get? a=some o):IsRevT h' a l i:=let ⟨o,ho,r⟩:=x;⟨o,e _ ho,r⟩
end
def Itv (K:W.Frag)(a:Addr)(n:Nat):It:=
 ⟨λi H=>i<n/\∃ xs,SqT K H a xs/\xs.length=n,λi H v H'=>H'=H/\∀ xs,SqT K H a xs->xs[n-1-i]? = some v,λi H=>n<=i⟩
section
variable {X:Cx}{K:W.Frag}
def ar6 (K:W.Frag)(vs:List V)(H:Hp)(R:It->Hp->Prop):Prop:=∃ a xs,vs=[.ref a]/\SqT K H a xs/\R (Itv K a xs.length) H
def iRev (K:W.Frag)(ta:TA):TI:=fun σ H R=>ta σ H λvs H1=>ar6 K vs H1 R
end
section
variable {K:W.Frag}{σ:St}{H:Hp}
theorem i_irev {ts:TA}{R:It->Hp->Prop}(k:ts σ H λvs H1=>ar6 K vs H1 R):iRev K ts σ H R:=k
end
def ao0 (ps:List (Str×Str))(l:List Str):List Str:=l.filter λx=>!l.any λy=>Av ps y x
def aj7 (ps:List (Str×Str))(l:List Str):List Str:=l.filter λx=>l.any λy=>Av ps y x
inductive Lays (ps:List (Str×Str)):List Str->List (List Str)->Prop
 |nil:Lays ps [] []
 |cons {l:List Str} {Ls:List (List Str)}:l≠[]->Lays ps (aj7 ps l) Ls->Lays ps l (ao0 ps l :: Ls)
theorem Ob {ps:List (Str×Str)}{l:List Str}{x:Str}:(l.any λy=>Av ps y x)=true↔∃ y∈l,Way ps y x:=by rw[A1D];exact⟨λ⟨y,h,e⟩=>⟨y,h,wayB_iff.mp e⟩,λ⟨y,h,e⟩=>⟨y,h,wayB_iff.mpr e⟩⟩
theorem mem_resF {ps:List (Str×Str)}{l:List Str}{x:Str}:x∈aj7 ps l↔x∈l/\∃ y∈l,Way ps y x:=by unfold aj7;rw[A13,Ob]
theorem mem_layF {ps:List (Str×Str)}{l:List Str}{x:Str}:x∈ao0 ps l↔x∈l/\¬ ∃ y∈l,Way ps y x:=by unfold ao0;rw[A13,Bool.not_eq_true',<- Bool.not_eq_true,Ob]
theorem Uj {ps:List (Str×Str)}(irr:∀ x,¬ Way ps x x):∀ l:List Str,l≠[]->∃ x∈l,∀ y∈l,¬ Way ps y x
 | [],h=>absurd rfl h
 | [a],_=>⟨a,by simp,λy hy=>by
   have:y=a:=by simpa using hy
   subst this;exact irr y⟩
 |a :: b :: t,_=>by
   obtain⟨x,hx,h⟩:=Uj irr (b :: t) ∅
   by_cases e:Way ps a x
   . refine⟨a,by simp,λy hy=>?_⟩;rcases A0D.mp hy with rfl|hy
     . exact irr y
     exact λg=>h y hy (g.trans e)
   refine⟨x,A0C _ hx,λy hy=>?_⟩;rcases A0D.mp hy with rfl|hy
   . exact e
   exact h y hy
theorem Mf {α:Type}{p:α->Bool}:∀ {l:List α} {x:α},x∈l->p x=false->(l.filter p).length<l.length
 |a :: l,x,hx,h=>by
   rcases A0D.mp hx with rfl|hx
   . rw[A15,h];exact Nat.lt_succ_of_le (A2V _ _)
   rw[A15];have:=Mf hx h
   split
   . rw[A0F,A0F];omega
   rw[A0F];omega
theorem af3 {ps:List (Str×Str)}(irr:∀ x,¬ Way ps x x){l:List Str}(h:l≠[]):(aj7 ps l).length<l.length:=by obtain⟨x,hx,g⟩:=Uj irr l h;refine Mf hx ?_;rw[<- Bool.not_eq_true,Ob];exact λ⟨y,hy,e⟩=>g y hy e
theorem Lays.len {ps:List (Str×Str)}(irr:∀ x,¬ Way ps x x){l:List Str}{Ls:List (List Str)}(h:Lays ps l Ls):Ls.length<=l.length:=by
 induction h with
 |nil=>simp
 |cons n _ ih=>have:=af3 irr n;rw[A0F];omega
theorem Lays.mem {ps:List (Str×Str)}{l:List Str}{Ls:List (List Str)}(h:Lays ps l Ls):∀ L∈Ls,L.length<=l.length/\∀ x∈L,x∈l:=by
 induction h with
 |nil=>exact λ_ h=>by cases h
 |@cons l Ls n _ ih=>
   intro L hL;rcases A0D.mp hL with rfl|hL
   . exact⟨A2V _ _,λx hx=>(mem_layF.mp hx).1⟩
   obtain⟨h1,h2⟩:=ih L hL;exact⟨A0P h1 (A2V _ _),λx hx=>(mem_resF.mp (h2 x hx)).1⟩
def Chn (ps:List (Str×Str)) (cs:List Str):Prop:=∀(k:Nat) (x y:Str),cs[k]? = some x->cs[k+1]? = some y->Way ps x y
theorem Chn.nil {ps:List (Str×Str)}:Chn ps []:=λk x y h=>by cases h
theorem Chn.cons {ps:List (Str×Str)}{x:Str}{cs:List Str}(h:Chn ps cs)(g:∀ y,cs[0]? = some y->Way ps x y):Chn ps (x :: cs):=λk a b ha hb=>by
 cases k with
 |zero=>
   have:x=a:=by simpa using ha
   subst this;rw[A38] at hb;exact g b hb
 |succ k=>rw[A38] at ha hb;exact h k a b ha hb
section
variable {K:W.Frag} {H:Hp} {Q:VK}
end
theorem IsL.bl_eq {α:Type}{K:W.Frag}{H:Hp}{f:α->Bool}:∀ {as:List α} {vs:List V},IsL K H (as.map λa=>PyData.bool (f a)) vs->vs=(as.map f).map V.bl
 | [],vs,h=>by simp only[List.map_nil,IsL] at h;exact h
 |n :: ns,vs,h=>by simp only[List.map_cons,IsL,Is] at h;obtain⟨v,r,rfl,rfl,e3⟩:=h;rw[IsL.bl_eq e3];rfl
theorem Ii {α:Type}{K:W.Frag}{H:Hp}{σ:St}{J:It}{xs:List V}{G:Hp->Prop}{g:TG}{te:TE}{Q:VK}{k:Nat}{js:List Nat}(hw:Dl J xs G)(as:List α)(hl:as.length=xs.length)(f:α->Bool)(hz:xs.length<=1000000)(hG:∀ H',Same H H'->G H')
  (hs:∀(i:Nat) a v H1 (R:VK),as[i]? = some a->xs[i]? = some v->Same H H1->(∀ H2,Same H1 H2->R (.bl (f a)) H2)->g v (List.replicate k none++N4 σ js) H1 fun σ2 H2=>te σ2 H2 R)
  (hd:∀ p H',H p=none->Same H H'->SqL K H' p ((as.map f).map V.bl)->Q (.ref p) H'):Og k js g Uv te σ J H Q:=by
 refine Vd (K:=K) hw as hl (λ_=>true) (λa=>PyData.bool (f a)) (λ_=>rfl) hz hG (λi a v H1 R R' ha hv e hR hR'=>?_) (λp ys H' hp e h hL=>?_)
 . exact hs i a v H1 R ha hv e λH2 e2=>hR rfl _ H2 e2 ap6
 rw[J4] at hL;have:=IsL.bl_eq hL;subst this;exact hd p H' hp e (SqL.of h)
section
variable {P:Program}{w:World}{κ:Type}[DecidableEq κ]{knd:KeyKind P w κ}{A:Around}{E:Value->Shared->Prop}{s:Shared}
def EqW (P:Program)(w:World)(A:Around)(s:Shared)(x y:Value)(e:Bool):Prop:=∀(E:Value->Shared->Prop) (Q:Bool->Shared->Prop),Q e s->wpAny (model P w) A (eqBool x y) Q E s
def Ms (ev:Value->Value->Bool)(kb:List (κ×Value))(kv:κ×Value):Bool:=match valueAt kb kv.1 with
 |none=>false
 |some y=>ev kv.2 y
theorem ag7 {nm:String}{a b:Addr}{ka kb:List (κ×Value)}{Q:Bool->Shared->Prop}(ev:Value->Value->Bool)(na:(a==sysModules)=false)(nb:(b==sysModules)=false)(d1:s.heap.DictOf knd a ka)(d2:s.heap.DictOf knd b kb)
  (he:∀ kv∈ka,∀ y,valueAt kb kv.1=some y->EqW P w A s kv.2 y (ev kv.2 y)) (h:Q (decide (ka.length=kb.length)&&ka.all (Ms ev kb)) s):wpAny (model P w) A (Builtin.Dict.samePairs nm a b) Q E s:=by
 obtain⟨o1,t1,p1,g1,_,f1,k1,r1,_⟩:=d1;obtain⟨o2,t2,p2,g2,_,f2,k2,r2,_⟩:=d2;have z1:ka.length=t1.size:=r1.length.symm.trans A30;have z2:kb.length=t2.size:=r2.length.symm.trans A30
 have look:∀ k,valueAt kb k=findBy knd.is t2 k:=λk=>by rw[<- r2.find k];clear r2 f2 k2 z2;obtain⟨l⟩:=t2;simp[findBy]
 unfold Builtin.Dict.samePairs Builtin.Dict.showsAll;rw[A0L (by rw[na];decide),A0L (by rw[nb];decide)];refine A00 (A04 ?_);refine A00 (A04 ?_);refine A00 (A3Y g1 f1 ?_);refine A00 (A3Y g2 f2 ?_)
 by_cases hz:t1.size=t2.size
 . have h':Q (ka.all (Ms ev kb)) s:=by rw[A0U (by rw[z1,z2];exact hz),Bool.true_and] at h;exact h
   rw[if_neg (by simp[hz])];refine A00 (wpAny_dictEpoch g1 f1 ?_);refine A00 ?_;rw[Std.Legacy.Range.forIn_eq_forIn_range',show Std.Legacy.Range.size [:t1.size]=t1.size by simp[Std.Legacy.Range.size]];refine wpAny_forIn_list _ (λl q s'=>s'=s/\q=(none,())/\∃ i,i<=t1.size/\l=List.range' i (t1.size-i)/\(ka.drop i).all (Ms ev kb)=ka.all (Ms ev kb)) _ ?_ ?_ _ _ ⟨rfl,rfl,0,A2R _,rfl,rfl⟩
   . rintro j l q s' ⟨rfl,rfl,i,hi,el,hall⟩
     have hlt:i<t1.size:=by
      rcases Nat.lt_or_ge i t1.size with q|q
      . exact q
      rw[Nat.sub_eq_zero_of_le q] at el
      cases el
     rw[show t1.size-i=t1.size-(i+1)+1 by omega,List.range'_succ] at el;injection el with e1 e2;subst e1;refine A00 (A3Y g1 f1 ?_);have hlk:j<ka.length:=by omega
     have hk:ka[j]? = some ka[j]:=A03 hlk;have ht:t1[j]? = some t1[j]:=Array.getElem?_eq_getElem hlt;generalize ka[j]=kv at hk;generalize t1[j]=en at ht;have hmem:kv∈ka:=A06 hk
     have hdr:ka.drop j=kv :: ka.drop (j+1):=by obtain⟨q1,q2⟩:=A02.mp hk;rw[<- q2];exact List.drop_eq_getElem_cons q1
     obtain⟨hkey,hval⟩:=r1.get? (i:=j) (e:=en) (k:=kv.1) (v:=kv.2) (by rw[A26];exact ht) hk;obtain⟨k',hk',hh⟩:=k1 en (Array.mem_of_getElem? ht);have ek:k'=kv.1:=knd.inj _ _ _ hk' hkey;subst ek;rw[hdr,List.all_cons] at hall;rw[ht];refine A00 (m:=holding _ _) (A1P ?_);rw [hh];refine A00 (wpAny_dictFind_of hkey g2 f2 k2 ?_);have hf:=findBy_of_findIdx? knd.is t2 kv.1
     cases hj:t2.findIdx? λe=>knd.is kv.1 e.key with
     |none=>
       rw[hj] at hf
       have hn:Ms ev kb kv=false:=by unfold Ms;rw[look,hf]
       refine A04 ?_;rw[A0Q (show(!false)=true from rfl)];refine A04 (A04 ?_);rw[<- hall,hn,A4Q] at h';exact h'
     |some m=>
       rw[hj] at hf;obtain⟨hm,_⟩:=Array.findIdx?_eq_some_iff_getElem.mp hj;have hv:valueAt kb kv.1=some t2[m].val:=by rw[look,hf];simp[Array.getElem?_eq_getElem hm]
       have hw:Ms ev kb kv=ev kv.2 t2[m].val:=by unfold Ms;rw[hv]
       refine A00 (A3Y g2 f2 ?_);rw[Array.getElem?_eq_getElem hm];have hev:=he kv hmem _ hv;rw [<- hval] at hev;refine A1P (hev _ _ ?_);rw[hval,<- hw]
       cases hb:Ms ev kb kv with
       |false=>rw[A0Q (show(!false)=true from rfl)];refine A04 (A04 ?_);rw[<- hall,hb,A4Q] at h';exact h'
       |true=>rw[A0L (show ¬ (!true)=true by decide)];refine A00 (wpAny_dictEpoch g1 f1 ?_);rw[A0L ∅];refine A04 ⟨rfl,rfl,j+1,hlt,e2,?_⟩;rw[hb,Bool.true_and] at hall;exact hall
   rintro q s' ⟨rfl,rfl,i,hi,el,hall⟩
   have hin:t1.size<=i:=by
    rcases Nat.lt_or_ge i t1.size with q|q
    . rw[show t1.size-i=t1.size-(i+1)+1 by omega,List.range'_succ] at el
      cases el
    exact q
   refine A04 ?_;rw[List.drop_of_length_le (by omega)] at hall;rw[<- hall] at h';exact h'
 rw[if_pos (by simpa using hz)];rw[A0R (by rw[z1,z2];exact hz),A4Q] at h;exact A00 (A3W (A04 h))
theorem aq2 {a b:Addr}{ka kb:List (κ×Value)}{Q:Value->Shared->Prop}(ev:Value->Value->Bool)(na:(a==sysModules)=false)(nb:(b==sysModules)=false)(d1:s.heap.DictOf knd a ka)(d2:s.heap.DictOf knd b kb)(hu:A.units<cLine)
  (he:∀ kv∈ka,∀ y,valueAt kb kv.1=some y->EqW P w A.in1 s kv.2 y (ev kv.2 y)) (h:Q (.bool (decide (ka.length=kb.length)&&ka.all (Ms ev kb))) s):wpAny (model P w) A (richCompare .Eq (.ref a) (.ref b)) Q E s:=by
 refine wpAny_richCompare_same_room d1.typeIs d2.typeIs PySem.F.slot_dict_eq (A2Z PySem.F.slot_dict_eq d1.typeIs PySem.F.entry_dict_eq ?_ (PySem.F.args_dict_eq_2 _ _)) hu;show wpAny _ _ (Builtin.Dict.dictSlotArgs "__eq__" _ >>= _) _ _ s;unfold Builtin.Dict.dictSlotArgs;refine A00 (A00 (A4J d1.typeIs ?_));show wpAny _ _ (pure (_,_)) _ _ s;refine A04 (A00 (A46 d2.typeIs PySem.F.sub_dict_dict ?_));rw[A0L (show ¬ (!true)=true by decide)];refine A00 (A04 ?_);refine A00 (A04 ?_);refine A00 (ag7 ev na nb d1 d2 he ?_);refine A04 ⟨_,rfl,(λz=>by cases z),?_⟩;rw[show((decide (ka.length=kb.length)&&ka.all (Ms ev kb))==true)=(decide (ka.length=kb.length)&&ka.all (Ms ev kb)) by simp];exact h
theorem Wo {a b:Addr}{e:Bool}(hne:a≠b)(h:∀(E:Value->Shared->Prop) (Q:Value->Shared->Prop),Q (.bool e) s->wpAny (model P w) A (richCompare .Eq (.ref a) (.ref b)) Q E s):EqW P w A s (.ref a) (.ref b) e:=by intro E Q q;unfold eqBool;exact A1P (wpAny_ite_split (λz=>absurd (by have z':=eq_of_beq z;injection z') hne) λ_=>A00 (h E _ (A1N q)))
end
theorem Y4 {α:Type}[DecidableEq α]{xs ys:List α}(hx:xs.Nodup)(hs:∀ x∈xs,x∈ys)(hl:xs.length=ys.length):∀ y∈ys,y∈xs:=λy hy=>Classical.byContradiction λhn=>by
 have:=B3 (xs:=y :: xs) (ys:=ys) (A0T.mpr ⟨hn,hx⟩) λz hz=>by
  rcases A0D.mp hz with rfl|hz
  . exact hy
  exact hs z hz
 rw[A0F] at this;omega
def Jy (ks ms:List Str):Bool:=decide (ks.length=ms.length)&&ks.all λy=>decide (y∈ms)
theorem T8 {ks ms:List Str}(hk:ks.Nodup)(hm:ms.Nodup):Jy ks ms=true↔∀ y,y∈ks↔y∈ms:=by
 unfold Jy;rw[A0Z,A2O,A0W];constructor
 . rintro⟨h1,h2⟩ y;have h2':∀ y∈ks,y∈ms:=λy hy=>A21 (h2 y hy);exact⟨h2' y,Y4 hk h2' h1 y⟩
 intro h;refine⟨A3N (B3 hk λy hy=>(h y).mp hy) (B3 hm λy hy=>(h y).mpr hy),λy hy=>A0U ((h y).mp hy)⟩
def at4:Key->Option Str
 |.inr z=>some z
 |_=>none
def K5 (H:Hp)(x:Value):List Str:=match x with
 |.ref a=>match H a with
   |some (.dK kvs)=>kvs.filterMap λkv=>at4 kv.1
   |_=>[]
 |_=>[]
theorem Lo (ks:List Str):((E2 ks).filterMap λkv=>at4 kv.1)=ks:=by
 unfold E2;rw[List.filterMap_map]
 induction ks with
 |nil=>rfl
 |cons k ks ih=>rw[List.filterMap_cons];show k :: _=_;rw[ih]
theorem Fw {H:Hp}{a:Addr}{ks:List Str}(h:H a=some (.dK (E2 ks))):K5 H (.ref a)=ks:=by unfold K5;simp only[h];exact Lo ks
theorem KV.right {κ:Type}:∀ {kvs:List (κ×V)} {vs:List (κ×Value)},KV kvs vs->∀ u∈vs,∃ kv∈kvs,kv.1=u.1/\RelV kv.2 u.2
 |_,_,.nil,_,h=>nomatch h
 |_,_,.cons r t,u,h=>by
   rcases A0D.mp h with rfl|h
   . exact⟨_,A0J,r⟩
   obtain⟨kv,h1,h2⟩:=KV.right t u h;exact⟨kv,A0C _ h1,h2⟩
theorem KV.left {κ:Type}:∀ {kvs:List (κ×V)} {vs:List (κ×Value)},KV kvs vs->∀ kv∈kvs,∃ u∈vs,kv.1=u.1/\RelV kv.2 u.2
 |_,_,.nil,_,h=>nomatch h
 |_,_,.cons r t,u,h=>by
   rcases A0D.mp h with rfl|h
   . exact⟨_,A0J,r⟩
   obtain⟨kv,h1,h2⟩:=KV.left t u h;exact⟨kv,A0C _ h1,h2⟩
section
variable {X:Cx}{pins:List (Addr×Obj)}{σ:St}{H:Hp}{s:Shared}{A:Around}
theorem Zc (I:Inv X pins σ H s){a b:Addr}{ks ms:List Str}(h1:H a=some (.dK (E2 ks)))(h2:H b=some (.dK (E2 ms)))(hu:A.units<cLine):EqW X.prog X.w A s (.ref a) (.ref b) (Jy ks ms):=by
 by_cases hab:a=b
 . subst hab;rw[h1] at h2
   have e:ks=ms:=by
    have e1:E2 ks=E2 ms:=by injection h2 with h;injection h
    rw[<- Lo ks,e1,Lo]
   subst e
   have e2:Jy ks ks=true:=by unfold Jy;rw[A0Z,A0W];exact⟨by simp,λy hy=>decide_eq_true hy⟩
   rw[e2];exact λE Q q=>SeqAt.EqAt.same (.ref a) X.prog X.w E Q q
 refine Wo hab λE Q q=>?_;obtain⟨_,n1,v1,r1,d1⟩:=M0 I.hok h1;obtain⟨_,n2,v2,r2,d2⟩:=M0 I.hok h2
 have all1:∀ kv∈v1,kv.2 = .bool true:=λkv h=>by obtain⟨p,hp,_,hr⟩:=KV.right r1 kv h;obtain⟨y,_,rfl⟩:=A09.mp hp;exact hr
 have at2:∀ k y,valueAt v2 k=some y->y = .bool true:=λk y h=>by
  have hv:=KV.val r2 k;rw[h] at hv
  cases k with
  |inl i=>
    have:Cf (E2 ms) (Sum.inl i:Key)=none:=by
     unfold Cf E2
     rw[List.find?_eq_none.mpr (λkv hkv=>by obtain⟨y,_,rfl⟩:=A09.mp hkv;simp)]
     rfl
    rw[this] at hv;exact hv.elim
  |inr z=>
    rw[G7] at hv
    by_cases hz:z∈ms
    . rw[A0Q hz] at hv;exact hv
    rw[A0L hz] at hv;exact hv.elim
 refine aq2 (λ_ _=>true) n1 n2 d1 d2 hu (λkv hkv y hy=>?_) ?_
 . rw[all1 kv hkv,at2 _ y hy];exact λE Q q=>SeqAt.EqAt.bool_bool true true X.prog X.w E Q q
 have e:(decide (v1.length=v2.length)&&v1.all (Ms (λ_ _=>true) v2))=Jy ks ms:=by
  unfold Jy;rw[<- r1.length,<- r2.length,He,He];congr 1
  have hit:∀ z,Ms (λ_ _=>true) v2 (Sum.inr z,Value.bool true)=decide (z∈ms):=λz=>by
   have hv:=KV.val r2 (Sum.inr z:Key);rw[G7] at hv;unfold Ms
   by_cases hz:z∈ms
   . rw[A0Q hz] at hv
     cases hx:valueAt v2 (Sum.inr z:Key) with
     |none=>rw[hx] at hv;exact hv.elim
     |some y=>simp[hz]
   rw[A0L hz] at hv
   cases hx:valueAt v2 (Sum.inr z:Key) with
   |none=>simp[hz]
   |some y=>rw[hx] at hv;exact hv.elim
  rw[A1J,A0W,A0W];constructor
  . intro h y hy;obtain⟨u,hu1,hu2,hu3⟩:=KV.left r1 (Sum.inr y,V.bl true) (A09.mpr ⟨y,hy,rfl⟩);have:=h u hu1;obtain⟨u1,u2⟩:=u;simp only at hu2;subst hu2;have hb:u2=Value.bool true:=all1 _ hu1;subst hb;rw[<- hit];exact this
  intro h u hu1;obtain⟨p,hp,hq1,hq2⟩:=KV.right r1 u hu1;obtain⟨y,hy,rfl⟩:=A09.mp hp;have hb:=all1 u hu1;obtain⟨u1,u2⟩:=u;simp only at hq1 hb;subst hq1 hb;rw[hit];exact h y hy
 rw[e];exact q
theorem Ud {ns:List Str} {as:List Addr} {k:Key} {v:V} (hn:ns.Nodup) (hl:as.length=ns.length) (h:Cf (Ep ns as) k=some v):∃(i:Nat) (z:Str) (a:Addr),k=Sum.inr z/\v = .ref a/\ns[i]? = some z/\as[i]? = some a:=by
 unfold Cf at h
 cases hf:(Ep ns as).find? λkv=>decide (kv.1=k) with
 |none=>rw[hf] at h;cases h
 |some kv=>
   rw[hf] at h;have hk0:=List.find?_some hf;have hk:kv.1=k:=A21 hk0;have hm:=List.mem_of_find?_eq_some hf;obtain⟨p,hp,rfl⟩:=A09.mp hm
   cases h;obtain⟨i,hi,e⟩:=A1V hp;rw[List.getElem_zip] at e;rw[List.length_zip] at hi;subst e;exact⟨i,_,_,hk.symm,rfl,A03 (by omega),A03 (by omega)⟩
def ai6:R2:=λx y H Q=>∃ r r' ns ns' as as' R R',x = .ref r/\y = .ref r'/\Tab H r ns as R/\Tab H r' ns' as' R'/\ns.Nodup/\ns'.Nodup/\∀ b,(b=true↔((∀ z,z∈ns↔z∈ns')/\∀ z∈ns,∀ y,R z y↔R' z y))->Q (.bl b) H
theorem Xa (hq:QA X.A):OpR X (compareOp .Eq) ai6:=by
 intro pins s σ H x y v u Q I rx ry h;obtain⟨r,r',ns,ns',as,as',R,R',rfl,rfl,T1,T2,hn,hn',q⟩:=h
 cases rx
 cases ry;obtain⟨_,n1,v1,r1,d1⟩:=M0 I.hok T1.top;obtain⟨_,n2,v2,r2,d2⟩:=M0 I.hok T2.top;have hun:=hq.un
 have el1:∀ kv∈v1,∃(i:Nat) (z:Str) (a:Addr),kv=(Sum.inr z,Value.ref a)/\ns[i]? = some z/\as[i]? = some a:=λkv h=>by
  obtain⟨p,hp,he,hr⟩:=KV.right r1 kv h;obtain⟨p',hp',rfl⟩:=A09.mp hp;obtain⟨i,hi,e⟩:=A1V hp';rw[List.getElem_zip] at e;rw[List.length_zip] at hi;subst e;obtain⟨k1,k2⟩:=kv;simp only at he hr
  cases he
  cases hr;exact⟨i,_,_,rfl,A03 (by omega),A03 (by omega)⟩
 have at2:∀ z y,valueAt v2 (Sum.inr z:Key)=some y->∃(i:Nat) (b:Addr),y=Value.ref b/\ns'[i]? = some z/\as'[i]? = some b:=λz y h=>by
  have hv:=KV.val r2 (Sum.inr z:Key);rw[h] at hv
  cases hx:Cf (Ep ns' as') (Sum.inr z:Key) with
  |none=>rw[hx] at hv;exact hv.elim
  |some x=>
    rw[hx] at hv;obtain⟨i,z',b,e1,rfl,e3,e4⟩:=Ud hn' T2.len hx
    cases e1;exact⟨i,b,hv,e3,e4⟩
 have has2:∀(i:Nat) z b,ns'[i]? = some z->as'[i]? = some b->valueAt v2 (Sum.inr z:Key)=some (Value.ref b):=λi z b h1 h2=>by
  have hv:=KV.val r2 (Sum.inr z:Key);rw[Io hn' h1 h2] at hv
  cases hx:valueAt v2 (Sum.inr z:Key) with
  |none=>rw[hx] at hv;exact hv.elim
  |some x=>rw[hx] at hv;cases hv;rfl
 show wpAny _ _ (richCompare .Eq (.ref r) (.ref r')) _ _ _;refine aq2 (λx y=>Jy (K5 H x) (K5 H y)) n1 n2 d1 d2 (by omega) (λkv hkv y hy=>?_) ⟨.bl _,H,I,rfl,q _ ?_⟩
 . obtain⟨i,z,a,rfl,hz,ha⟩:=el1 kv hkv;obtain⟨j,b,rfl,hz',hb⟩:=at2 z y hy;obtain⟨ks,hk,_⟩:=T1.row i z a hz ha;obtain⟨ms,hm,_⟩:=T2.row j z b hz' hb;show EqW _ _ _ _ (.ref a) (.ref b) (Jy (K5 H (.ref a)) (K5 H (.ref b)));rw[Fw hk,Fw hm];exact Zc I hk hm (show X.A.units+1<cLine by omega)
 rw[A0Z,A2O,A0W,<- r1.length,<- r2.length];have l1:(Ep ns as).length=ns.length:=by unfold Ep;rw[List.length_map,List.length_zip,T1.len];omega
 have l2:(Ep ns' as').length=ns'.length:=by unfold Ep;rw[List.length_map,List.length_zip,T2.len];omega
 rw[l1,l2]
 have hit:∀(i:Nat) z a,ns[i]? = some z->as[i]? = some a->(Ms (λx y=>Jy (K5 H x) (K5 H y)) v2 (Sum.inr z,Value.ref a)=true↔z∈ns'/\∀ y,R z y↔R' z y):=λi z a hz ha=>by
  obtain⟨ks,hk1,hk2,_,hk4⟩:=T1.row i z a hz ha;unfold Ms
  cases hx:valueAt v2 (Sum.inr z:Key) with
  |none=>
    refine⟨(λh=>by cases h),(λh=>?_)⟩;obtain⟨j,b,hj,hb⟩:=T2.at h.1;rw[has2 j z b hj hb] at hx
    cases hx
  |some y=>
    obtain⟨j,b,rfl,hj,hb⟩:=at2 z y hx;obtain⟨ms,hm1,hm2,_,hm4⟩:=T2.row j z b hj hb;show Jy (K5 H (.ref a)) (K5 H (.ref b))=true↔_;rw[Fw hk1,Fw hm1,T8 hk2 hm2];constructor
    . exact λh=>⟨A06 hj,λy=>(hk4 y).symm.trans ((h y).trans (hm4 y))⟩
    exact λh y=>(hk4 y).trans ((h.2 y).trans (hm4 y).symm)
 constructor
 . rintro⟨h1,h2⟩
   have h3:∀ z∈ns,z∈ns'/\∀ y,R z y↔R' z y:=λz hz=>by
    obtain⟨i,a,hi,ha⟩:=T1.at hz
    obtain⟨u,hu1,hu2,hu3⟩:=KV.left r1 (Sum.inr z,V.ref a) (by refine A09.mpr ⟨(z,a),?_,rfl⟩;refine A06 (i:=i) ?_;rw[List.getElem?_zip_eq_some];exact⟨hi,ha⟩)
    obtain⟨u1,u2⟩:=u;simp only at hu2 hu3
    cases hu2
    cases hu3;exact(hit i z a hi ha).mp (h2 _ hu1)
   exact⟨λz=>⟨λhz=>(h3 z hz).1,Y4 hn (λz hz=>(h3 z hz).1) h1 z⟩,λz hz=>(h3 z hz).2⟩
 rintro⟨h1,h2⟩;refine⟨A3N (B3 hn λy hy=>(h1 y).mp hy) (B3 hn' λy hy=>(h1 y).mpr hy),λkv hkv=>?_⟩;obtain⟨i,z,a,rfl,hz,ha⟩:=el1 kv hkv;have hzm:=A06 hz;exact(hit i z a hz ha).mpr ⟨(h1 z).mp hzm,h2 z hzm⟩
end
section
variable {prog:Program}{w:World}{A:Around}{E:Value->Shared->Prop}{s:Shared}
end
section
variable {X:Cx}{K:W.Frag}
end
theorem Way.mem {ns:List Str}{ps:List (Str×Str)}(hm:∀ p∈ps,p.1∈ns/\p.2∈ns){x y:Str}(h:Way ps x y):x∈ns/\y∈ns:=by obtain⟨p,hp,e⟩:=A09.mp h.left;obtain⟨q,hq,e'⟩:=A09.mp h.right;exact⟨e ▸ (hm p hp).1,e' ▸ (hm q hq).2⟩
theorem a83 {ns:List Str}{ps:List (Str×Str)}(hm:∀ p∈ps,p.1∈ns/\p.2∈ns){x y:Str}:Way (clP ns ps) x y↔Way ps x y:=by
 constructor
 . intro h
   induction h with
   |one e=>exact(mem_clP.mp e).2.2
   |cons e _ ih=>exact(mem_clP.mp e).2.2.trans ih
 intro h;have:=h.mem hm;exact .one (mem_clP.mpr ⟨this.1,this.2,h⟩)
theorem Wr (ps:List (Str×Str))(a:Str)(t:List Str):(unP (a :: t) ps).length=(t.filter λy=>unB ps a y).length+(unP t ps).length:=by
 have e:∀ i,unR (a :: t) ps (i+1)=unR t ps i:=λi=>by unfold unR;rw[List.getD_cons_succ,List.drop_succ_cons]
 unfold unP unK;rw[A0F,A4A,A3Z,A0H,List.flatMap_map]
 have e0:(unR (a :: t) ps 0).length=(t.filter λy=>unB ps a y).length:=by unfold unR;rw[A05];rfl
 rw[e0];have e1:(λi=>unR (a :: t) ps (Nat.succ i))=unR t ps:=funext e;rw[show((List.range t.length).flatMap λi=>unR (a :: t) ps i.succ)=(List.range t.length).flatMap (unR t ps) from by rw[e1]]
theorem HalfW.cl {ns ms:List Str}{ps:List (Str×Str)}(h:HalfW ns ps)(hp:ms.Perm ns)(hl:(clP ns ps).length<=1000):HalfW ms (clP ns ps):=
 ⟨hp.nodup_iff.mpr h.nd,λp hp'=>let ⟨a,b,_⟩:=mem_clP.mp hp';⟨hp.mem_iff.mpr a,hp.mem_iff.mpr b⟩,λx g=>h.irr x ((a83 h.mem).mp g),by rw[hp.length_eq];exact h.few,hl⟩
def inS (ns:List Str):Key->Bool
 |.inr z=>decide (z∈ns)
 |.inl _=>false
theorem Vx (ns:List Str)(z:Str)(k:Key):inS (ns++[z]) k=(inS ns k||decide (k=Sum.inr z)):=by
 cases k with
 |inl i=>simp[inS]
 |inr y=>simp only[inS,List.mem_append,List.mem_singleton,Bool.decide_or];congr 1;simp
theorem Ow (ms:List Str)(z:Str):(Bk [] (ms++[z])).length=if inS ms (Sum.inr z)=true then(Bk [] ms).length else(Bk [] ms).length+1:=by
 unfold Bk;rw[List.foldl_append];show(Vb (Bk [] ms) z).length=_;unfold Vb;have e:(z∈Bk [] ms)↔z∈ms:=by rw[mem_addAll];simp
 by_cases h:z∈ms
 . rw[if_pos (e.mpr h),if_pos (by simpa[inS] using h)];rfl
 rw[if_neg (λq=>h (e.mp q)),if_neg (by simpa[inS] using h),List.length_append,List.length_singleton];rfl
theorem N3:∀ ms:List Str,(Bk [] ms).length<=ms.length:=λms=>by
 have g:=B3 (ys:=ms) (Ce (ms:=ms) (ks:=[]) ∅) λz hz=>by
  rcases mem_addAll.mp hz with h|h
  . cases h
  exact h
 exact g
section
variable {P:Program}{w:World}{A:Around}{R:Result->Shared->Prop}{it:Addr}{fp wr:List Addr}{G:Array GenState->Array GenState->Prop}{n:Nat}{PV:Nat->Value->Prop}{St:Nat->Shared->Prop}
theorem So (z:Str)(t:Tok):(Ak P w).is (Sum.inr z) (.str z t)=true:=by show Li (Sum.inr z) (.str z t)=true;simp[Li,Value.isStrOf]
theorem W0 (W:WalksS P w A.in1 it fp wr G n PV St)(D:Addr)(hD:D∉fp)(ns:List Str)(hval:∀ i v,PV i v->∃ z t,ns[i]? = some z/\v = .str z t)(hb:n+1<scanBound)(hn:ns.length=n) :
  ∀(k i:Nat) (s:Shared),n-i=k->i<=n->St i s->s.heap.SetOf (Ak P w) D (inS (ns.take i)) (Bk [] (ns.take i)).length ->
   (∀ s',Moved (D :: wr) G s s'->s'.heap.SetOf (Ak P w) D (inS ns) (Bk [] ns).length->R (.ok (.ret .none)) s') ->
   codeAny (model P w) A (.builtin "set.update.loop" ⟨[.ref D,.ref it],[]⟩) R s:=by
 have hDw:D∉wr:=λh=>hD (W.sub _ h);have sub:∀ b∈wr,b∈D :: wr:=λb h=>.tail _ h;have stays:∀ {s s':Shared} {f:Key->Bool} {m:Nat},Moved wr G s s'->s.heap.SetOf (Ak P w) D f m->s'.heap.SetOf (Ak P w) D f m:=λhm ⟨o,es,ep,t,ho,r⟩=>⟨o,es,ep,t,hm.heap D _ hDw ho,r⟩;intro k
 induction k with
 |zero=>
   intro i s hk hi st hS hR;obtain rfl:i=n:=by omega
   rw[A49 (by omega)] at hS;refine A3O F.entry_set_update_loop ?_;rw[A3J F.plain_set_update_loop];refine A00 (m:=pyNext (.ref it)) (W.done s _ _ st λs' hm=>?_);show wpAny _ _ (ret Value.none) _ _ _;exact A04 (hR s' (hm.mono sub) (stays hm hS))
 |succ k ih=>
   intro i s hk hi st hS hR;have hlt:i<n:=by omega
   refine A3O F.entry_set_update_loop ?_;rw[A3J F.plain_set_update_loop];refine A00 (m:=pyNext (.ref it)) (W.item i s _ _ hlt st λv s' hv st' hm=>?_);obtain⟨z,t,hz,rfl⟩:=hval i v hv;have ht:ns.take (i+1)=ns.take i++[z]:=by rw[A10,hz];rfl
   refine A00 (m:=holding _ (setAdd D (.str z t))) (A1P ?_);unfold setAdd;refine A1P (A00 ((Ak P w).pyHash (So z t) ?_));have hle:=N3 (ns.take i);rw[A17] at hle;refine wpAny_setAddHashed_of (s:={s' with toks:=s'.toks+1}) (So z t) rfl (show s'.heap.SetOf _ _ _ _ from stays hm hS) (by omega) λh' hsb hS2=>?_
   have hS3:h'.SetOf (Ak P w) D (inS (ns.take (i+1))) (Bk [] (ns.take (i+1))).length:=by
    rw[ht,Ow,show inS (ns.take i++[z])=λk'=>inS (ns.take i) k'||decide (k'=Sum.inr z) from funext (Vx _ _)]
    exact hS2
   refine A04 ⟨plainId_quiet F.plain_set_update_loop _,ih (i+1) _ (by omega) hlt (W.frame _ s' _ _ st' (A3C _) λb hb o e=>?_) hS3 λs2 hm2 hS4=>?_⟩
   . have hbD:b≠D:=λq=>hD (q ▸ hb);exact(hsb.2 b hbD).trans e
   refine hR s2 (Moved.trans W.gtrans ((hm.mono sub).then_heap (A3C _) λb o hb e=>?_) hm2) hS4;have hbD:b≠D:=λq=>hb (by rw[q];exact A0J);exact(hsb.2 b hbD).trans e
end
theorem Ou:isSubtype (.type "tuple") (.type "set")=pure false:=by rw[isSubtype_type];kernel_rfl
theorem N2:isSubtype (.type "tuple") (.type "frozenset")=pure false:=by rw[isSubtype_type];kernel_rfl
section
variable {prog:Program}{w:World}{A:Around}{E:Value->Shared->Prop}{s:Shared}
def Hu (led:Bool):Obj:={cls:=.type "set",dict:=none,data:=.set #[] 0 (.fresh 0 0 led)}
def ab8 (prog:Program)(w:World)(s:Shared)(ns:List Str)(h':Heap):Prop:=h'.SetOf (Ak prog w) s.heap.objs.size (inS ns) (Bk [] ns).length/\∀ b o,b<s.heap.objs.size->s.heap.get? b=some o->h'.get? b=some o
set_option maxHeartbeats 3200000 in
theorem Tb {t:Addr}{its:List Value}{ns:List Str}{Q:Value->Shared->Prop}(hh:A.handled=none)(ht:s.heap.IsTuple t its.toArray)(hv:Vals (ns.map V.str) its)(hb:ns.length+1<scanBound)
  (h:∀(h':Heap) (k:Nat),ab8 prog w s ns h'->Q (.ref s.heap.objs.size) {s with heap:=h',toks:=k}):wpAny (model prog w) A (call (.type "set") [.ref t]) Q E s:=by
 have hlen:its.length=ns.length:=by rw[<- hv.length,A05]
 obtain⟨c,tl,m1⟩:=F.called_set.mro;have m2:=F.called_set.made;have m3:=F.called_set.sub;have m4:=F.called_set.notType;have m5:=F.called_set.canCreate;have m6:=F.typeCall_set_1 (.ref t);refine A4L (codeAny_of_tree (show wpAny _ _ (callAny (.type "set") _) _ _ _ from ?_));refine A04 ⟨A50 _ (by decide +kernel),A3O F.entry_type_call ?_⟩;rw[Around.under_plain (weight_type_call_type "set" [Value.ref t] []) rfl]
 repeat (any_goals (first | assumption | wp_step))
 refine A3F (code_set_new_1 (Value.ref t) (E:=E) (Q₁:=λx s₁=>∃ led:Bool,x = .ref s.heap.objs.size/\s₁={s with heap:=s.heap.push (Hu led)}) λled=>⟨led,rfl,rfl⟩) λr s₁ hr=>?_
 cases r with
 |error e=>exact hr
 |ok fl=>
   cases fl with
   |ret x=>
     obtain⟨led,rfl,rfl⟩:=hr;have hN:(s.heap.push (Hu led)).get? s.heap.objs.size=some (Hu led):=A0E _ rfl;have hT:Shared.TypeIs {s with heap:=s.heap.push (Hu led)} (.ref s.heap.objs.size) "set":=⟨_,hN,rfl⟩
     have n1:=F.called_set.init.lookup;have n2:=F.called_set.init.bind (.ref s.heap.objs.size)
     repeat (any_goals (first | assumption | wp_step))
     refine A3F (A4O (R:=wants (λr s₂=>r = .none/\∃ h' k,s₂={s with heap:=h',toks:=k}/\ab8 prog w s ns h') E) F.called_set.init.plain F.entry_set_init (check_set_init_1 hT ?_)) λr₂ s₂ hr₂=>?_
     . obtain⟨⟨oc,od,odt,osl⟩,g1,g2,nl,g3⟩:=id ht;simp only at g2 g3;subst g2 g3;have g4:(s.heap.push (Hu led)).get? t=some {cls:=.type "tuple",dict:=od,data:=.seq its.toArray nl,slots:=osl}:=A01 _ g1;have q1:=Ou;have q2:=N2;have q3:(Value.type "tuple" == Value.type "dict")=false:=by decide
       have ht1:(s.heap.push (Hu led)).IsTuple t its.toArray:=⟨_,g4,rfl,nl,rfl⟩;unfold Builtin.«set.__init__» noKeywords Builtin.Frozenset.updateFrom;generalize hPI:pyIter=PI
       wp_walk
       subst hPI;refine A27 ht1 (A00 (wpAny_runValue ?_));have htl:t<s.heap.objs.size:=A07 g1;have hz:(s.heap.push (Hu led)).objs.size=s.heap.objs.size+1:=A1G ..;refine W0 ((Walks.tuple (by simp[hh]) _ t (by rw[hz];exact Nat.ne_of_lt (Nat.lt_succ_of_lt htl)) its.toArray).toS) s.heap.objs.size (by rw[hz];simp only[List.mem_cons,List.not_mem_nil,or_false,not_or];exact⟨Nat.ne_of_lt (Nat.lt_succ_self _),Nat.ne_of_gt htl⟩) ns (λi v hv'=>?_) (by rw[List.size_toArray];omega) (by rw[List.size_toArray];omega) _ 0 _ rfl (Nat.zero_le _) ⟨⟨_,Heap.get?_push_size _ rfl,rfl,rfl⟩,ht1.push _⟩ ?_ ?_
       . have hv2:its[i]? = some v:=by rw[<- A2U];exact hv'
         have hi:i<ns.length:=by have:=(A02.mp hv2).1;omega
         obtain⟨u,hu,ru⟩:=hv.get (i:=i) (x:=.str ns[i]) (by rw[A0G,A03 hi];rfl);rw[hv2] at hu
         cases hu;obtain⟨k,rfl⟩:=ru;exact⟨_,k,A03 hi,rfl⟩
       . have e:inS (ns.take 0)=λ_=>false:=funext λk=>by cases k<;>simp[inS]
         rw[e];exact⟨Hu led,#[],0,.fresh 0 0 led,Heap.get?_push_of_some _ hN,⟨rfl,rfl,rfl⟩,rfl,(λe he=>by simp at he),(λk=>by simp),by simp[scanBound],rfl,rfl⟩
       intro s' hm hS';obtain⟨h',g',d',k',os'⟩:=s';have eg:g'=s.gens:=hm.gens;have ed:d'=s.drawn:=hm.drawn;have eo:os'=s.os:=hm.os;subst eg ed eo;refine A04 ?_;show wpAny _ _ (ret Value.none) _ _ _;refine A04 ⟨rfl,h',k',rfl,hS',λb o hb e=>hm.heap b o ?_ (A01 _ (A01 _ e))⟩;rw[hz];simp only[List.mem_cons,List.not_mem_nil,or_false,not_or];exact⟨A0O hb,A0O (A3X hb)⟩
     cases r₂ with
     |error e=>exact hr₂
     |ok fl₂=>
       cases fl₂ with
       |ret r=>
         obtain⟨rfl,h',k,rfl,hS⟩:=hr₂
         repeat (any_goals (first | assumption | wp_step))
         exact h _ _ hS
       |_=>exact hr₂.elim
   |_=>exact hr.elim
end
section
variable {X:Cx}{K:W.Frag}
def Ts (K:W.Frag):List V->Hp->VK->Prop:=λvs H Q=>∃ a ns,vs=[.ref a]/\SqT K H a (ns.map V.str)/\ns.length<=1000/\Q (.int ((Bk [] ns).length:Nat)) H
theorem Uy {e:Expr}{ta:TA}{p p2 pos pos2:Pos}(hc:X.A.handled=none)(hg:Gl X "len")(hm:X.mg "len" = none)(hg2:Gl X "set")(hm2:X.mg "set" = none)(ha:PA X [e] ta)(hK:X.K=K:=by ac_nf)
  (hs:starEach [e] X.env=[(false,eval e X.env)]:=by ac_nf) (hs2:starEach [.Call (.Name "set" p2) [e] [] pos2] X.env=[(false,eval (.Call (.Name "set" p2) [e] [] pos2) X.env)]:=by ac_nf) :
  PE X (.Call (.Name "len" p) [.Call (.Name "set" p2) [e] [] pos2] [] pos) (tCB (Ts K) ta):=by
 subst hK;intro pins s σ H Q I h;refine A2N (Hr I hg hm PyProof.Rows.Boot.«len» ?_ nofun nofun);refine PyProof.Rows.callWith_builtin1 ?_ hs2 rfl;rw[hs2];show wpAny _ _ (spliced ((false,eval (.Call (.Name "set" p2) [e] [] pos2) X.env) :: backTo pos [])) _ _ s;refine Calls.spliced_cons ?_;refine A2N (Hr I hg2 hm2 PyProof.Rows.Boot.«set» ?_ nofun nofun);refine A22 (thn (ha pos2 pins s σ H _ I h) λus s1 ⟨vs,H1,I1,r1,q1⟩=>?_) hs rfl;obtain⟨a,ns,rfl,hq,hz,q⟩:=q1;obtain⟨u,rfl,ru⟩:=Vals.one r1
 cases ru;obtain⟨its,rv,ht,hz2⟩:=I1.tuple hq;refine Tb hc ht rv (by unfold scanBound;omega) λh' k hS=>?_;obtain⟨hS1,hS2⟩:=hS;have I2:Inv X pins σ H1 {s1 with heap:=h',toks:=k}:=I1.kept (t':=k) λb o e=>hS2 b o (A07 e) e
 refine Calls.spliced_nil ?_;obtain⟨o,es,ep,t,ho,hex,hd,_,_,hb,hf,hn⟩:=hS1;refine call_len_set ho hex hd hf (by unfold scanBound at hb;omega) ?_;exact⟨.int _,H1,I2.tok _,⟨_,by rw[hn]⟩,q⟩
theorem Vf {a:Addr}{ns:List Str}{H:Hp}{Q:VK}(h:SqT K H a (ns.map V.str))(hz:ns.length<=1000)(k:Q (.int ((Bk [] ns).length:Nat)) H):Ts K [.ref a] H Q:=⟨a,ns,rfl,h,hz,k⟩
end
theorem Y1 {z:Str}(h:M6 z=true):z.length<=8:=(an9 h).2
theorem Uc {ns:List Str}(h:ns.Nodup):(Bk [] ns).length=ns.length:=A3N (N3 ns) (B3 h λz hz=>mem_addAll.mpr (.inr hz))
section
variable {K:W.Frag} {H:Hp} {Q:VK}
end
theorem Fb (ns:List Int):∀ j ≤ ns.length,preSum (λi=>ns.getD i 0) j=(ns.take j).sum
 |0,_=>by simp[preSum]
 |j+1,h=>by rw[preSum,Fb ns j (by omega),A10,Lf (y:=0) (by omega:j<ns.length)];simp
theorem N7:∀ {ns:List Int},(∀ n∈ns,0<=n/\n<=1000000000000)->0<=ns.sum/\ns.sum<=1000000000000*(ns.length:Int)
 | [],_=>by simp
 |n :: ns,h=>by have h1:=h n ∅;have h2:=N7 λm hm=>h m (A0C _ hm);rw[A2J,A0F];omega
section
variable {X:Cx}{K:W.Frag}
def ao6 (K:W.Frag):List V->Hp->VK->Prop:=λxs H Q=>∃(a:Addr) (ns:List Int),xs=[.ref a]/\(SqL K H a (ns.map V.int)\/SqT K H a (ns.map V.int))/\(∀ n∈ns,0<=n/\n<=1000000000000)/\ns.length<=1000000/\Q (.int ns.sum) H
theorem Xq {ns:List Int}{its:List Value}(r:Vals (ns.map V.int) its){i:Nat}{v:Value}(h:its.toArray[i]? = some v):∃ t,v = .int (ns.getD i 0) t:=by
 rw[A2U] at h;have hl:=r.length;rw[A05] at hl
 have hi:i<ns.length:=by have:=(A02.mp h).1;omega
 obtain⟨u,hu,ru⟩:=r.get (i:=i) (x:=.int (ns.getD i 0)) (by rw[A0G,Lf (y:=0) hi];rfl);rw[h] at hu
 cases hu;exact ru
theorem Uo (hc:X.calm=true):CallR X (.builtin "sum") (ao6 X.K):=by
 intro pins s σ H xs us Q I r h;obtain⟨a,ns,rfl,hl,hb,hz,q⟩:=h;obtain⟨u,rfl,ru⟩:=Oh r
 cases ru
 have fits:∀ j,j<ns.length->InLong (ns.getD j 0)/\InLong (preSum (λi=>ns.getD i 0) (j+1)):=λj hj=>by have h1:=hb _ (A06 (Lf (y:=0) hj));have h2:=N7 (ns:=ns.take (j+1)) λn hn=>hb n (A2W hn);rw[Fb ns (j+1) hj];rw[A17] at h2;unfold InLong;omega
 have last:preSum (λi=>ns.getD i 0) ns.length=ns.sum:=by rw[Fb ns _ (A0A _),A1E]
 refine call_sum_walk ?_;rcases hl with hl|hl
 . obtain⟨its,rv,pl,_⟩:=I.list hl;have hlen:its.toArray.size=ns.length:=by rw[A0N,<- rv.length,A05]
   have hlt:a<s.heap.objs.size:=let ⟨_,e,_⟩:=pl.isList;A07 e;refine A3D pl.isList ?_;refine⟨_,_,_,_,_,_,λi=>ns.getD i 0,rfl,Walks.list (by simpa using I.ok.hd hc) _ a (Nat.ne_of_lt hlt) its.toArray,⟨⟨_,Heap.get?_push_size _ rfl,rfl,rfl⟩,pl.isList.push _⟩,λb hb'=>?_,λi v hv=>Xq rv hv,by rw[hlen];exact fits,λh' tk t' hk=>?_⟩
   . rw[A1G];simp only[List.mem_cons,List.not_mem_nil,or_false] at hb';rcases hb' with rfl|rfl
     . exact Nat.lt_succ_self _
     exact A3X hlt
   refine⟨.int ns.sum,H,I.kept (t':=tk) λb o e=>hk b o (λz=>?_) (A01 _ e),⟨t',by rw[hlen,last]⟩,q⟩;have:b=s.heap.objs.size:=by simpa using z
   subst this;exact absurd (A07 e) (A25 _)
 obtain⟨its,rv,pl,_⟩:=I.tuple hl;have hlen:its.toArray.size=ns.length:=by rw[A0N,<- rv.length,A05]
 have hlt:a<s.heap.objs.size:=let ⟨_,e,_⟩:=pl;A07 e;refine A27 pl ?_;refine⟨_,_,_,_,_,_,λi=>ns.getD i 0,rfl,Walks.tuple (by simpa using I.ok.hd hc) _ a (Nat.ne_of_lt hlt) its.toArray,⟨⟨_,Heap.get?_push_size _ rfl,rfl,rfl⟩,Heap.IsTuple.push pl _⟩,λb hb'=>?_,λi v hv=>Xq rv hv,by rw[hlen];exact fits,λh' tk t' hk=>?_⟩
 . rw[A1G];simp only[List.mem_cons,List.not_mem_nil,or_false] at hb';rcases hb' with rfl|rfl
   . exact Nat.lt_succ_self _
   exact A3X hlt
 refine⟨.int ns.sum,H,I.kept (t':=tk) λb o e=>hk b o (λz=>?_) (A01 _ e),⟨t',by rw[hlen,last]⟩,q⟩;have:b=s.heap.objs.size:=by simpa using z
 subst this;exact absurd (A07 e) (A25 _)
theorem Mw (hc:X.calm=true)(hK:X.K=K:=by ac_nf):CallR X (.builtin "sum") (ao6 K):=hK ▸ Uo hc
theorem am2 {a:Addr}{ns:List Int}{H:Hp}{Q:VK}(h:SqL K H a (ns.map V.int)\/SqT K H a (ns.map V.int))(hb:∀ n∈ns,0<=n/\n<=1000000000000)(hz:ns.length<=1000000)(k:Q (.int ns.sum) H):ao6 K [.ref a] H Q:=⟨a,ns,rfl,h,hb,hz,k⟩
end
section
variable {prog:Program}{w:World}{A:Around}{E:Value->Shared->Prop}{s:Shared}
end
section
variable {X:Cx}{K:W.Frag}
def tBMT (K:W.Frag)(r:V->List V->Hp->VK->Prop)(to:TE)(t:TA):TE:=fun σ H Q=>to σ H λx H1=>(∃ a xs,x = .ref a/\SqT K H1 a xs)/\t σ H1 λvs H2=>r x vs H2 Q
theorem i_bmT {r:V->List V->Hp->VK->Prop}{te:TE}{ts:TA}{σ:St}{H:Hp}{Q:VK}(k:te σ H λx H1=>(∃ a xs,x = .ref a/\SqT K H1 a xs)/\ts σ H1 λxs H2=>r x xs H2 Q):tBMT K r te ts σ H Q:=k
end
section
variable {prog:Program}{w:World}{A:Around}{E:Value->Shared->Prop}{s:Shared}
end
section
variable {X:Cx}{K:W.Frag}
end
section
variable {α:Type}[DecidableEq α]
def E4:List α->(α->Bool)->Nat
 | [],_=>0
 |x :: xs,p=>(p x).toNat+2*E4 xs p
def af5:List α->α->Nat
 | [],_=>0
 |y :: ys,x=>if x=y then 1 else 2*af5 ys x
theorem Kg {p q:α->Bool}:∀ {ns:List α},(∀ x∈ns,p x=q x)->E4 ns p=E4 ns q
 | [],_=>rfl
 |x :: xs,h=>by unfold E4;rw[h x ∅,Kg (ns:=xs) λy hy=>h y (by simp[hy])]
theorem Wn {a b:Bool} {m n:Nat} (h:a.toNat+2*m=b.toNat+2*n):a=b/\m=n:=by cases a<;>cases b<;>simp[Bool.toNat] at h ⊢ <;> omega
theorem Ik {p q:α->Bool}:∀ {ns:List α},E4 ns p=E4 ns q->∀ x∈ns,p x=q x
 | [],_,x,hx=>by cases hx
 |y :: ys,h,x,hx=>by
   unfold E4 at h;obtain⟨h1,h2⟩:=Wn h;rcases A0D.mp hx with rfl|hx
   . exact h1
   exact Ik h2 x hx
theorem binM_zero {p:α->Bool}:∀ {ns:List α},E4 ns p=0↔∀ x∈ns,p x=false
 | []=>by simp[E4]
 |x :: xs=>by
   unfold E4;have:=binM_zero (p:=p) (ns:=xs);constructor
   . intro h y hy;have h1:(p x).toNat=0:=by omega
     have h2:E4 xs p=0:=by omega
     rcases A0D.mp hy with rfl|hy
     . cases e:p y with
       |false=>rfl
       |true=>rw[e] at h1;cases h1
     exact this.mp h2 y hy
   intro h;rw[h x ∅,this.mpr λy hy=>h y (by simp[hy])];rfl
theorem S6 (p:α->Bool):∀ ns:List α,E4 ns p<2 ^ ns.length
 | []=>by simp[E4]
 |x :: xs=>by
   have:=S6 p xs;unfold E4;rw[A0F,Nat.pow_succ];have:(p x).toNat<=1:=by cases p x<;>simp[Bool.toNat]
   omega
def frF (b:α->α->Bool)(L:List α):List α:=L.filter λx=>!(L.any λy=>b y x)
def Ar (L:List α)(x:α):List α:=L.filter λy=>!decide (y=x)
def ext (b:α->α->Bool):Nat->List α->List (List α)
 |0,_=>[[]]
 |n+1,L=>(frF b L).flatMap λx=>(ext b n (Ar L x)).map (x :: ·)
def cnt (b:α->α->Bool)(L:List α):Nat:=(ext b L.length L).length
theorem S5 (b:α->α->Bool):cnt b []=1:=rfl
theorem mem_frF {b:α->α->Bool}{L:List α}{x:α}:x∈frF b L↔x∈L/\∀ y∈L,b y x=false:=by
 unfold frF;rw[A13];constructor
 . rintro ⟨h1,h2⟩;refine⟨h1,λy hy=>?_⟩
   cases e:b y x with
   |false=>rfl
   |true=>
     have:(L.any λy=>b y x)=true:=A1D.mpr ⟨y,hy,e⟩;rw[this] at h2
     cases h2
 rintro⟨h1,h2⟩;refine⟨h1,?_⟩
 have:(L.any λy=>b y x)=false:=by
  rw[Bool.eq_false_iff];intro h;obtain⟨y,hy,e⟩:=A1D.mp h;rw[h2 y hy] at e
  cases e
 rw[this];rfl
theorem mem_lessF {L:List α}{x y:α}:y∈Ar L x↔y∈L/\y≠x:=by unfold Ar;rw[A13];simp
theorem Bx {L:List α}(h:L.Nodup)(x:α):(Ar L x).Nodup:=A51 (A1W) h
theorem Lc:∀ {L:List α} {x:α},x∉L->Ar L x=L:=fun {L x} h=>by unfold Ar;rw[List.filter_eq_self];intro y hy;have:y≠x:=λq=>h (q ▸ hy);simp[this]
theorem Bs:∀ {L:List α} {x:α},L.Nodup->x∈L->(Ar L x).length+1=L.length
 | [],_,_,h=>by cases h
 |y :: ys,x,hn,h=>by
   obtain⟨h1,h2⟩:=A0T.mp hn
   by_cases e:y=x
   . subst e;have:Ar (y :: ys) y=Ar ys y:=by unfold Ar;rw[List.filter_cons,if_neg ∅]
     rw[this,Lc h1];rfl
   have:Ar (y :: ys) x=y :: Ar ys x:=by unfold Ar;rw[List.filter_cons,if_pos (by simp[e])]
   rw[this,A0F,Bs h2 ((A0D.mp h).resolve_left λq=>e q.symm)];rfl
theorem Nf {b:α->α->Bool} {L:List α} (hn:L.Nodup) (hne:L≠[]):cnt b L=((frF b L).map λx=>cnt b (Ar L x)).sum:=by
 unfold cnt
 cases hl:L.length with
 |zero=>exact absurd (A0Y.mp hl) hne
 |succ n=>
   show((frF b L).flatMap λx=>(ext b n (Ar L x)).map (x :: ·)).length=_;rw[List.length_flatMap];congr 1;apply A14;intro x hx;have:=Bs hn (mem_frF.mp hx).1;have e:(Ar L x).length=n:=by omega
   rw[A05,e]
def fac:Nat->Nat
 |0=>1
 |n+1=>fac n*(n+1)
theorem Pe (c:Nat)(f:α->Nat):∀ l:List α,(l.map λx=>f x*c).sum=(l.map f).sum*c
 | []=>by simp
 |x :: xs=>by simp[Pe c f xs,Nat.add_mul]
theorem Iy {p q:α->Bool}:∀ {l:List α},(∀ a∈l,p a=true->q a=true)->(∃ z∈l,q z=true/\p z=false)->(l.filter p).length<(l.filter q).length
 | [],_,h=>by obtain⟨z,hz,_⟩:=h;cases hz
 |y :: ys,h,hz=>by
   have le:∀ l:List α,(∀ a∈l,p a=true->q a=true)->(l.filter p).length<=(l.filter q).length:=by
    intro l
    induction l with
    |nil=>intro _;exact A0A _
    |cons a l ih=>
      intro h;have:=ih λa ha=>h a (by simp[ha]);rw[A15,A15]
      cases c:p a with
      |true=>rw[if_pos rfl,if_pos (h a ∅ c)];simpa using this
      |false=>
        rw[A0L ∅]
        split
        . simp;omega
        exact this
   rw[A15,A15];obtain⟨z,hz,hq,hp⟩:=hz;rcases A0D.mp hz with rfl|hz
   . rw[hp,A0L ∅,A0Q hq,A0F];have:=le ys λa ha=>h a (by simp[ha]);omega
   have ih:=Iy (l:=ys) (λa ha=>h a (by simp[ha])) ⟨z,hz,hq,hp⟩
   cases c:p y with
   |true=>rw[if_pos rfl,if_pos (h y ∅ c)];simpa using ih
   |false=>
     rw[A0L ∅]
     split
     . simp;omega
     exact ih
theorem S3 {b:α->α->Bool}(irr:∀ x,b x x=false)(tr:∀ x y z,b x y=true->b y z=true->b x z=true){L:List α}:∀(m:Nat) (y:α),y∈L->(L.filter λz=>b z y).length<=m->∃ x∈frF b L,x=y\/b x y=true
 |m,y,hy,hm=>by
   by_cases c:∃ z∈L,b z y=true
   . obtain ⟨z,hz,hzy⟩:=c;have lt:(L.filter λa=>b a z).length<(L.filter λa=>b a y).length:=Iy (λa _ h=>tr a z y h hzy) ⟨z,hz,hzy,irr z⟩
     cases m with
     |zero=>omega
     |succ m=>
       obtain⟨x,hx,h⟩:=S3 irr tr m z hz (by omega);refine⟨x,hx,.inr ?_⟩;rcases h with rfl|h
       . exact hzy
       exact tr x z y h hzy
   refine⟨y,mem_frF.mpr ⟨hy,λz hz=>?_⟩,.inl rfl⟩
   cases e:b z y with
   |false=>rfl
   |true=>exact absurd ⟨z,hz,e⟩ c
theorem T4 {b:α->α->Bool} {L:List α} (h:L.Nodup):(frF b L).Nodup:=A51 A1W h
theorem aj4 {b:α->α->Bool}(irr:∀ x,b x x=false)(tr:∀ x y z,b x y=true->b y z=true->b x z=true){L:List α}(h:L≠[]):frF b L≠[]:=by
 cases L with
 |nil=>exact absurd rfl h
 |cons y ys=>
   obtain⟨x,hx,_⟩:=S3 irr tr (L:=y :: ys) _ y ∅ (A0A _);intro e;rw[e] at hx
   cases hx
theorem Mj {f g:α->Nat}{l:List α}(h:∀ x∈l,f x=g x):(l.map f).sum=(l.map g).sum:=by rw[A14 h]
end
theorem FnOk.void {P:Program}{w:World}{K:W.Frag}{mg:Str->Option Value}{base:Heap}{CX:CXT}{k:Nat}{f:Addr}{fd:FuncData}{ps:List Str}{sp:Sp}(h:∀ vs H Q E,¬ sp vs H Q E):FnOk P w K mg base CX k f fd ps sp:=
 ⟨λvs H Q E q=>absurd q (h vs H Q E),λA outer s H args us vs Q E _ _ _ _ hs=>absurd hs (h vs H Q E)⟩
def rAt (f:Str)(C:Addr):V->Hp->VK->Prop:=λx H Q=>∃ a dx fs v,x = .ref a/\H a=some (.ins C dx fs)/\fs.lookup f=some v/\Q v H
def tAt (f:Str)(C:Addr)(ta:TE):TE:=fun σ H Q=>ta σ H λx H1=>rAt f C x H1 Q
def rSt (f:Str)(C:Addr)(y:V):V->Hp->(Hp->Prop)->Prop:=λx H R=>∃ a dx fs,x = .ref a/\H a=some (.ins C dx fs)/\fs.length<1000/\R (upd H a (.ins C dx (Xz f y fs)))
def sSt (f:Str)(C:Addr)(ta tv:TE):TS:=λD σ H=>tv σ H λy H1=>ta σ H1 λx H2=>rSt f C y x H2 λH3=>D.nx σ H3
def rMe (m:Str)(C:Addr)(sp:Sp)(t:TA)(σ:St):V->Hp->VK->Prop:=λx H Q=>∃ a dx fs,x = .ref a/\H a=some (.ins C dx fs)/\fs.lookup m=none/\t σ H λvs H2=>sp (x :: (vs++[])) H2 Q E0
def tMe (m:Str)(C:Addr)(sp:Sp)(ta:TE)(t:TA):TE:=fun σ H Q=>ta σ H λx H1=>rMe m C sp t σ x H1 Q
def rMk (C:Addr)(sp:Sp):List V->Hp->VK->Prop:=λvs H1 Q=>∀ x dx,H1 x=none->H1 dx=none->dx≠x ->
 sp (.ref x :: (vs++[])) (upd (upd H1 dx (.own x)) x (.ins C dx [])) (λv H2=>v = .non/\Q (.ref x) H2) E0
def tMk (C:Addr)(sp:Sp)(t:TA):TE:=fun σ H Q=>t σ H λvs H1=>rMk C sp vs H1 Q
def tTru (ta:TE):TT:=fun σ H Q=>ta σ H λx H1=>∃ i:Int,x = .int i/\Q (i != 0) H1
section
variable {X:Cx}{K:W.Frag}{k:Nat}{C:Addr}{f x m:Str}{ps:List Str}{sp:Sp}{e o value:Expr}{es:List Expr}{ta tv:TE}{t:TA}{p pos pos' apos:Pos}
end
section
variable {K:W.Frag}{C:Addr}{f m:Str}{sp:Sp}{ta tv:TE}{t:TA}{σ:St}{H:Hp}{Q:VK}{D:Ends}
theorem i_tAt (k:ta σ H λx H1=>rAt f C x H1 Q):tAt f C ta σ H Q:=k
theorem i_sSt (k:tv σ H λy H1=>ta σ H1 λx H2=>rSt f C y x H2 λH3=>D.nx σ H3):sSt f C ta tv D σ H:=k
theorem i_tMe (k:ta σ H λx H1=>rMe m C sp t σ x H1 Q):tMe m C sp ta t σ H Q:=k
theorem i_tMk (k:t σ H λvs H1=>rMk C sp vs H1 Q):tMk C sp t σ H Q:=k
theorem i_tTru {R:Bool->Hp->Prop}(k:ta σ H λx H1=>∃ i:Int,x = .int i/\R (i != 0) H1):tTru ta σ H R:=k
end
section
variable {X:Cx}{K:W.Frag}
end
section
variable {X:Cx}
end
section
variable {α:Type}[DecidableEq α]
theorem ab4 {m n:Nat}(h:m<=n):fac m<=fac n:=by
 induction h with
 |refl=>exact A0A _
 |@step k _ ih=>exact A0P ih (Nat.le_mul_of_pos_right _ (Nat.succ_pos k))
end
def as2 (ns:List Str):List (Key×V):=ns.map λx=>((Sum.inr x:Key),V.int ((af5 ns x:Nat):Int))
def ahK (ns:List Str)(ps:List (Str×Str)):List (Key×V):=ns.map λx=>((Sum.inr x:Key),V.int ((E4 ns (λy=>Av ps y x):Nat):Int))
def Knw (ns:List Str) (ps:List (Str×Str)) (kvs:List (Key×V)):Prop:=(kvs.map (·.1)).Nodup /\
 (∀ kv∈kvs,∃ q:Str->Bool,kv.1=Sum.inl ((E4 ns q:Nat):Int)/\kv.2=V.int ((cnt (Av ps) (ns.filter q):Nat):Int))/\Cf kvs (Sum.inl 0:Key)=some (.int 1)
theorem Pz {κ:Type}[DecidableEq κ]:∀ {kvs:List (κ×V)} {k:κ} {v:V},Cf kvs k=some v->(k,v)∈kvs
 | [],k,v,h=>by cases h
 |p :: r,k,v,h=>by
   by_cases e:p.1=k
   . rw[B9 e] at h
     cases h;rw[<- e];exact A0J
   rw[Bd e] at h;exact A0C _ (Pz h)
theorem Knw.get {ns:List Str}{ps:List (Str×Str)}{kvs:List (Key×V)}(h:Knw ns ps kvs){q:Str->Bool}{v:V}(e:Cf kvs (Sum.inl ((E4 ns q:Nat):Int):Key)=some v):v = .int ((cnt (Av ps) (ns.filter q):Nat):Int):=by
 obtain⟨q',h1,h2⟩:=h.2.1 _ (Pz e)
 have h3:E4 ns q'=E4 ns q:=by have:=A4S h1;omega
 have h4:ns.filter q'=ns.filter q:=A3E λx hx=>Ik h3 x hx;rw[h4] at h2;exact h2
theorem Knw.len {ns:List Str}{ps:List (Str×Str)}{kvs:List (Key×V)}(h:Knw ns ps kvs)(hf:ns.length<=10):kvs.length<=1024:=by
 have:=B3 (ys:=(List.range 1024).map λi=>(Sum.inl ((i:Nat):Int):Key)) h.1 λk hk=>by obtain⟨kv,hkv,rfl⟩:=A09.mp hk;obtain⟨q,h1,_⟩:=h.2.1 kv hkv;rw[h1];have h2:=S6 q ns;have h3:(2:Nat) ^ ns.length<=2 ^ 10:=Nat.pow_le_pow_right nofun hf;exact A09.mpr ⟨E4 ns q,A2Y.mpr (by omega),rfl⟩
 rwa [A05,A05,A3V] at this
theorem Knw.put {ns:List Str}{ps:List (Str×Str)}{kvs:List (Key×V)}(h:Knw ns ps kvs)(q:Str->Bool) :
  Knw ns ps (D9 kvs (Sum.inl ((E4 ns q:Nat):Int)) (.int ((cnt (Av ps) (ns.filter q):Nat):Int))):=by
 cases e:Cf kvs (Sum.inl ((E4 ns q:Nat):Int):Key) with
 |some v=>
   have hp:D9 kvs (Sum.inl ((E4 ns q:Nat):Int):Key) (.int ((cnt (Av ps) (ns.filter q):Nat):Int))=kvs:=by
    unfold D9;rw[Dq,e,A0Q (show(some v).isSome=true from rfl)]
    conv=>rhs;rw[<- List.map_id kvs]
    apply A14;intro kv hkv
    by_cases c:kv.1=Sum.inl ((E4 ns q:Nat):Int)
    . rw[A0Q c];obtain⟨q',h1,h2⟩:=h.2.1 kv hkv;rw[h1] at c
      have h3:E4 ns q'=E4 ns q:=by have:=A4S c;omega
      have h4:ns.filter q'=ns.filter q:=A3E λx hx=>Ik h3 x hx;rw[<- h4,<- h2];rfl
    rw[A0L c];rfl
   rw[hp];exact h
 |none=>
   refine⟨a55 _ h.1 e,λkv hkv=>?_,?_⟩
   . rw[Pp _ e] at hkv;rcases A08.mp hkv with hkv|hkv
     . exact h.2.1 kv hkv
     have:kv=(Sum.inl ((E4 ns q:Nat):Int),V.int ((cnt (Av ps) (ns.filter q):Nat):Int)):=by simpa using hkv
     subst this;exact⟨q,rfl,rfl⟩
   rw[W2]
   by_cases c:(Sum.inl 0:Key)=Sum.inl ((E4 ns q:Nat):Int)
   . rw[<- c,h.2.2] at e
     cases e
   rw[A0L c];exact h.2.2
theorem Knw.new (ns:List Str)(ps:List (Str×Str)):Knw ns ps [(Sum.inl 0,V.int 1)]:=by
 refine⟨by simp,λkv hkv=>?_,B9 rfl⟩;have:kv=(Sum.inl 0,V.int 1):=by simpa using hkv
 subst this;refine⟨λ_=>false,?_,?_⟩
 . rw[binM_zero.mpr λ_ _=>rfl];rfl
 have:ns.filter (λ_=>false)=[]:=by simp
 rw[this,S5];rfl
structure WaysAt (K:W.Frag)(C:Addr)(H:Hp)(p dx:Addr)(nv:V)(bd ad kd:Addr)(ns:List Str)(ps:List (Str×Str))(kvs:List (Key×V)):Prop where
 ob:H p=some (.ins C dx [("names",nv),("bits",.ref bd),("ahead",.ref ad),("full",.int ((E4 ns (λ_=>true):Nat):Int)),("known",.ref kd)])
 nm:Is K H (nmD ns) nv
 bt:H bd=some (.dK (as2 ns))
 ah:H ad=some (.dK (ahK ns ps))
 kn:H kd=some (.dK kvs)
 nb:bd≠kd
 na:ad≠kd
 ok:Knw ns ps kvs
section
variable {K:W.Frag}{C:Addr}{H H':Hp}{p dx:Addr}{nv:V}{bd ad kd:Addr}{ns:List Str}{ps:List (Str×Str)}{kvs kvs':List (Key×V)}
theorem WaysAt.same (h:WaysAt K C H p dx nv bd ad kd ns ps kvs)(e:Same H H'):WaysAt K C H' p dx nv bd ad kd ns ps kvs:=
 ⟨e _ _ h.ob,h.nm.nm_fz e.fz,e _ _ h.bt,e _ _ h.ah,e _ _ h.kn,h.nb,h.na,h.ok⟩
theorem WaysAt.pk (h:WaysAt K C H p dx nv bd ad kd ns ps kvs):p≠kd:=ne_of h.ob h.kn (by intro z;cases z)
theorem WaysAt.put (h:WaysAt K C H p dx nv bd ad kd ns ps kvs)(e:ExtBut kd H H')(hk:H' kd=some (.dK kvs'))(ok:Knw ns ps kvs'):WaysAt K C H' p dx nv bd ad kd ns ps kvs':=
 ⟨e _ _ h.pk h.ob,h.nm.nm_fz (e.fzD h.kn),e _ _ h.nb h.bt,e _ _ h.na h.ah,hk,h.nb,h.na,ok⟩
theorem WaysAt.list {l:Addr}{xs:List V}(h:WaysAt K C H p dx nv bd ad kd ns ps kvs)(e:ExtBut l H H')(hl:H l=some (.lst xs)):WaysAt K C H' p dx nv bd ad kd ns ps kvs:=
 ⟨e _ _ (ne_of h.ob hl (by intro z;cases z)) h.ob,h.nm.nm_fz (e.fzL hl),e _ _ (ne_of h.bt hl (by intro z;cases z)) h.bt,e _ _ (ne_of h.ah hl (by intro z;cases z)) h.ah,e _ _ (ne_of h.kn hl (by intro z;cases z)) h.kn,h.nb,h.na,h.ok⟩
end
theorem Pk {ns:List Str}{ps:List (Str×Str)}(h:HalfW ns ps)(x:Str):Av ps x x=false:=Hm (h.irr x)
theorem O8 {ps:List (Str×Str)}(x y z:Str)(h:Av ps x y=true)(g:Av ps y z=true):Av ps x z=true:=wayB_iff.mpr ((wayB_iff.mp h).trans (wayB_iff.mp g))
section
variable {α:Type}[DecidableEq α]
end
theorem Way.last {ps:List (Str×Str)}{x y:Str}(h:Way ps x y):∃ m,(m,y)∈ps/\(x=m\/Way ps x m):=by
 induction h with
 |one e=>exact⟨_,e,.inl rfl⟩
 |cons e _ ih=>
   obtain⟨m,h1,h2⟩:=ih;refine⟨m,h1,.inr ?_⟩;rcases h2 with rfl|h2
   . exact .one e
   exact .cons e h2
section
variable {α:Type}[DecidableEq α]
end
def aj9 (ns:List Str)(ct:List ((Str->Bool)×Nat)):List (Key×V):=ct.map λe=>((Sum.inl ((E4 ns e.1:Nat):Int):Key),V.int ((e.2:Nat):Int))
def Ha (ns:List Str)(F:List Str->Nat)(ct:List ((Str->Bool)×Nat)):Nat:=(ct.map λe=>e.2*F (ns.filter e.1)).sum
theorem Ji (ns:List Str)(F:List Str->Nat)(e:(Str->Bool)×Nat)(r:List ((Str->Bool)×Nat)):Ha ns F (e :: r)=e.2*F (ns.filter e.1)+Ha ns F r:=by unfold Ha;rw[List.map_cons,List.sum_cons]
theorem a22 {p:Key×V}{r:List (Key×V)}{k:Key}{v:V}(h:¬ p.1=k):D9 (p :: r) k v=p :: D9 r k v:=by
 unfold D9;rw[A2I,A0R h,A44]
 by_cases c:(r.any λkv=>decide (kv.1=k))=true
 . rw[A0Q c,A0Q c,A0I,A0L h]
 rw[A0L c,A0L c];rfl
theorem a56 {p:Key×V}{r:List (Key×V)}{v:V}(h:p.1∉r.map (·.1)):D9 (p :: r) p.1 v=(p.1,v) :: r:=by
 unfold D9;rw[A2I,A0U rfl,Bool.true_or,A0Q rfl,A0I,A0Q rfl];congr 1
 conv=>rhs;rw[<- List.map_id r]
 apply A14;intro kv hkv;rw[A0L λq=>h (A09.mpr ⟨kv,hkv,q⟩)];rfl
section
variable {K:W.Frag}{σ:St}{H:Hp}{Q:VK}{td ty tx:TE}
def ai7 (ty tx:TE)(σ:St):V->Hp->VK->Prop:=λx H1 Q=>∃ a,x = .ref a/\IsD H1 a/\ty σ H1 λy H2=>tx σ H2 λz H3=>∃ o,DGet H3 a y o/\Q (o.getD z) H3
theorem i_dget2 (k:td σ H λx H1=>ai7 ty tx σ x H1 Q):a94 td ty tx σ H Q:=k
end
section
variable {K:W.Frag}{C:Addr}{H H':Hp}{p dx:Addr}{nv:V}{bd ad kd:Addr}{ns:List Str}{ps:List (Str×Str)}{kvs:List (Key×V)}
theorem WaysAt.keep {cd:Addr}(h:WaysAt K C H p dx nv bd ad kd ns ps kvs)(k:Keep [cd] H H')(h1:p≠cd)(h2:bd≠cd)(h3:ad≠cd)(h4:kd≠cd):WaysAt K C H' p dx nv bd ad kd ns ps kvs:=
 ⟨k.1 _ _ (by simpa using h1) h.ob,h.nm.nm_fz k.fz,k.1 _ _ (by simpa using h2) h.bt,k.1 _ _ (by simpa using h3) h.ah,k.1 _ _ (by simpa using h4) h.kn,h.nb,h.na,h.ok⟩
theorem WaysAt.dict {d:Addr}{l:List (Key×V)}(h:WaysAt K C H p dx nv bd ad kd ns ps kvs)(e:ExtBut d H H')(hd:H d=some (.dK l))(h2:bd≠d)(h3:ad≠d)(h4:kd≠d):WaysAt K C H' p dx nv bd ad kd ns ps kvs:=
 ⟨e _ _ (ne_of h.ob hd (by intro z;cases z)) h.ob,h.nm.nm_fz (e.fzD hd),e _ _ h2 h.bt,e _ _ h3 h.ah,e _ _ h4 h.kn,h.nb,h.na,h.ok⟩
end
section
variable {K:W.Frag}{σ:St}{H:Hp}{Q:VK}
end
theorem K6 {prog:Program}{w:World}{κ:Type}[DecidableEq κ](knd:KeyKind prog w κ)(d:Addr) :
  MeetsIn prog w (Builtin.«dict.update» ⟨[.ref d,.ref d],[]⟩) (λ_ R s=>(∃ kvs,s.heap.DictOf knd d kvs)/\R (.ok (.ret .none)) s):=
 .of_wp λA R s hh=>by obtain⟨⟨kvs,hd⟩,h⟩:=hh;unfold Builtin.«dict.update» Builtin.Dict.selfAndRest;refine A00 (A00 (A4J hd.typeIs ?_));show wpAny _ _ (pure (d,[Value.ref d])) _ _ s;refine A04 ?_;show wpAny _ _ (Builtin.Dict.updateFrom "dict.update" d (.ref d) [] .none) _ _ s;unfold Builtin.Dict.updateFrom Builtin.Dict.merge Builtin.Dict.readDirectly;refine A00 (A4C hd.typeIs ?_);rw[A0L nofun];refine A00 (A00 (A00 (A46 hd.typeIs isSubtype_dict_dict ?_)));simp only[Bool.not_true,Bool.false_eq_true,if_false];refine A00 (wpAny_specialOf hd.typeIs F.slot_dict_iter.lookup (A04 ?_));simp only[beq_self_eq_true,if_true];refine A00 (A04 ?_);unfold Builtin.Dict.mergeDict;rw[A0Q ∅];refine A00 (A3W (A04 ?_));show wpAny _ _ (Builtin.Dict.addKeywords d [] >>= _) _ _ _;exact A00 (A04 (A04 ⟨.none,rfl,h⟩))
def Ph:V->List V->Hp->VK->Prop:=λx vs H Q=>∃ d kvs,x = .ref d/\vs=[.ref d]/\H d=some (.dK kvs)/\Q .non H
def L6:V->List V->Hp->VK->Prop:=λx vs H Q=>Oa x vs H Q\/Ph x vs H Q
section
variable {X:Cx}{K:W.Frag}
theorem Qz:MtM X "dict.update" Ph:=by
 intro pins s σ H x vs v us Q I rx rv h;obtain⟨d,kvs,rfl,rfl,hD,q⟩:=h
 cases rx;obtain⟨u,rfl,ru⟩:=rv.one
 cases ru;obtain⟨z1,hd1,vs1,rel1,dd1⟩:=M0 I.hok hD;refine call_meetsIn F.slot_dict_update dd1.typeIs F.entry_dict_update (F.args_dict_update_2 _ _) (K6 (Ak X.prog X.w) d) ⟨⟨vs1,dd1⟩,?_⟩;exact⟨.non,H,I.tok s.toks,rfl,q⟩
theorem Qf:MtM X "dict.update" L6:=by
 intro pins s σ H x vs v us Q I rx rv h;rcases h with h|h
 . exact Ro pins s σ H x vs v us Q I rx rv h
 exact Qz pins s σ H x vs v us Q I rx rv h
end
theorem a79 {d o:Addr}{ks ms:List Str}{H:Hp}{Q:VK}(hd:H d=some (.dK (E2 ks)))(ho:H o=some (.dK (E2 ms)))(hne:d≠o)(hz:ks.length+ms.length<=1000000)(k:∀ H',ExtBut d H H'->H' d=some (.dK (E2 (Bk ks ms)))->Q .non H'):L6 (.ref d) [.ref o] H Q:=.inl (am5 hd ho hne hz k)
theorem ae8 {d:Addr}{kvs:List (Key×V)}{H:Hp}{Q:VK}(hd:H d=some (.dK kvs))(k:Q .non H):L6 (.ref d) [.ref d] H Q:=.inr ⟨d,kvs,rfl,rfl,hd,k⟩
structure Vk (ns:List Str)(ps:List (Str×Str)):Prop where
 nd:ns.Nodup
 mem:∀ p∈ps,p.1∈ns/\p.2∈ns
 few:ns.length<=100
 le:ps.length<=1100
theorem HalfW.c {ns:List Str}{ps:List (Str×Str)}(h:HalfW ns ps):Vk ns ps:=⟨h.nd,h.mem,h.few,A0P h.le nofun⟩
instance {ns:List Str} {ps:List (Str×Str)}:Coe (HalfW ns ps) (Vk ns ps):=⟨HalfW.c⟩
theorem HalfW.more {ns:List Str}{ps:List (Str×Str)}(h:HalfW ns ps){x y:Str}(hx:x∈ns)(hy:y∈ns):Vk ns (ps++[(x,y)]):=by
 refine⟨h.nd,λp hp=>?_,h.few,?_⟩
 . rcases A08.mp hp with hp|hp
   . exact h.mem p hp
   have:p=(x,y):=by simpa using hp
   rw[this];exact⟨hx,hy⟩
 have:=h.le;rw[A0H,A1F];omega
section
variable {α:Type}[DecidableEq α]
def okR (b:α->α->Bool) (r:List α):Prop:=(∀ u∈r,b u u=false)/\r.Pairwise λu v=>b v u=false
theorem Mk {L:List α}(hn:L.Nodup){x:α}(hx:x∈L):(x :: Ar L x).Perm L:=by
 induction L with
 |nil=>cases hx
 |cons y ys ih=>
   obtain⟨h1,h2⟩:=A0T.mp hn
   by_cases e:y=x
   . subst e
     have:Ar (y :: ys) y=ys:=by
      have e1:Ar (y :: ys) y=Ar ys y:=by unfold Ar;rw[List.filter_cons,if_neg ∅]
      rw[e1,Lc h1]
     rw[this]
   have e1:Ar (y :: ys) x=y :: Ar ys x:=by unfold Ar;rw[List.filter_cons,if_pos (by simp[e])]
   rw[e1];exact(List.Perm.swap y x _).trans ((ih h2 ((A0D.mp hx).resolve_left λq=>e q.symm)).cons y)
theorem Dt (b:α->α->Bool):∀(n:Nat) (L r:List α),L.Nodup->L.length=n->(r∈ext b n L↔r.Perm L/\okR b r)
 |0,L,r,_,hl=>by
   have:=A0Y.mp hl;subst this;constructor
   . intro h;have:r=[]:=by simpa[ext] using h
     subst this;exact⟨.refl _,(λ_ h=>by cases h),List.Pairwise.nil⟩
   rintro⟨h,_⟩;have:r=[]:=List.perm_nil.mp h;subst this;simp[ext]
 |n+1,L,r,hn,hl=>by
   constructor
   . intro h;obtain⟨x,hx,h⟩:=A45.mp h;obtain⟨t,ht,rfl⟩:=A09.mp h;have hxL:=mem_frF.mp hx;have hlen:=Bs hn hxL.1;obtain⟨h1,h2,h3⟩:=(Dt b n (Ar L x) t (Bx hn x) (by omega)).mp ht;refine⟨(h1.cons x).trans (Mk hn hxL.1),λu hu=>?_,List.pairwise_cons.mpr ⟨λv hv=>hxL.2 v (mem_lessF.mp (h1.mem_iff.mp hv)).1,h3⟩⟩;rcases A0D.mp hu with rfl|hu
     . exact hxL.2 u hxL.1
     exact h2 u hu
   rintro⟨hp,hd,hpw⟩
   cases r with
   |nil=>
     have:=hp.length_eq;rw[hl] at this
     cases this
   |cons x t=>
     have hxL:x∈L:=hp.mem_iff.mp ∅;have hlen:=Bs hn hxL;have hpt:t.Perm (Ar L x):=List.Perm.cons_inv (hp.trans (Mk hn hxL).symm);obtain⟨q1,q2⟩:=List.pairwise_cons.mp hpw;refine List.mem_flatMap.mpr ⟨x,mem_frF.mpr ⟨hxL,λy hy=>?_⟩,List.mem_map.mpr ⟨t,(Dt b n (Ar L x) t (Bx hn x) (by omega)).mpr ⟨hpt,λu hu=>hd u (by simp[hu]),q2⟩,rfl⟩⟩
     by_cases e:y=x
     . rw[e];exact hd x ∅
     exact q1 y (hpt.mem_iff.mpr (mem_lessF.mpr ⟨hy,e⟩))
theorem E9 (b:α->α->Bool):∀(n:Nat) (L:List α),L.Nodup->(ext b n L).Nodup
 |0,L,_=>by simp[ext]
 |n+1,L,hn=>by
   show((frF b L).flatMap λx=>(ext b n (Ar L x)).map (x :: ·)).Nodup
   have key:∀ l:List α,l.Nodup->(l.flatMap λx=>(ext b n (Ar L x)).map (x :: ·)).Nodup:=by
    intro l
    induction l with
    |nil=>intro _;simp
    |cons y ys ih=>
      intro hl;obtain⟨h1,h2⟩:=A0T.mp hl;rw[A3Z,A1A];refine⟨?_,ih h2,?_⟩
      . have hi:=E9 b n (Ar L y) (Bx hn y);exact List.pairwise_map.mpr (hi.imp λhne e=>hne (List.cons.inj e).2)
      intro r hr t ht e;obtain⟨r',_,rfl⟩:=A09.mp hr;obtain⟨z,hz,ht⟩:=A45.mp ht;obtain⟨t',_,rfl⟩:=A09.mp ht;have:y=z:=(List.cons.inj e).1;exact h1 (this ▸ hz)
   exact key _ (T4 hn)
theorem Ho {β:Type}[DecidableEq β]{xs ys:List β}(h1:xs.Nodup)(h2:ys.Nodup)(h:∀ z,z∈xs↔z∈ys):xs.length=ys.length:=
 A3N (B3 h1 λz hz=>(h z).mp hz) (B3 h2 λz hz=>(h z).mpr hz)
end
theorem Kh:∀ {r:List Str} {x:Str},x∈r->r[r.idxOf x]? = some x/\(∀ m<r.idxOf x,r[m]? ≠ some x)/\r.idxOf x<r.length
 | [],_,h=>by cases h
 |y :: ys,x,h=>by
   rw[List.idxOf_cons]
   by_cases e:y=x
   . subst e;simp
   have hb:(y==x)=false:=by simpa using e
   obtain⟨h1,h2,h3⟩:=Kh ((A0D.mp h).resolve_left λq=>e q.symm);rw[hb];refine⟨h1,λm hm=>?_,by simpa using h3⟩
   cases m with
   |zero=>simpa using e
   |succ m=>exact h2 m (by simpa using hm)
theorem Mh {ns r:List Str}{ps:List (Str×Str)}(hn:ns.Nodup)(hm:∀ p∈ps,p.1∈ns/\p.2∈ns)(hp:r.Perm ns):okR (Av ps) r↔∀ p∈ps,r.idxOf p.1<r.idxOf p.2:=by
 have hrn:r.Nodup:=hp.nodup_iff.mpr hn;constructor
 . rintro⟨h1,h2⟩ p hpp;obtain⟨m1,m2⟩:=hm p hpp;obtain⟨a1,_,a3⟩:=Kh (hp.mem_iff.mpr m1);obtain⟨b1,_,b3⟩:=Kh (hp.mem_iff.mpr m2);have hw:Av ps p.1 p.2=true:=wayB_iff.mpr (.one hpp);have a4:=(A02.mp a1).2;have b4:=(A02.mp b1).2;rcases Nat.lt_trichotomy (r.idxOf p.1) (r.idxOf p.2) with h|h|h
   . exact h
   . have e:p.1=p.2:=by rw[h,b1] at a1;exact(A0X a1).symm
     rw[e] at hw;rw[h1 p.2 (hp.mem_iff.mpr m2)] at hw
     cases hw
   have:=List.pairwise_iff_getElem.mp h2 _ _ b3 a3 h;rw[a4,b4] at this;rw[this] at hw
   cases hw
 intro h
 have hw:∀ u v,Way ps u v->r.idxOf u<r.idxOf v:=λu v g=>by
  induction g with
  |one e=>exact h _ e
  |cons e _ ih=>exact A4H (h _ e) ih
 refine⟨λu hu=>?_,List.pairwise_iff_getElem.mpr λi j hi hj hij=>?_⟩
 . cases c:Av ps u u with
   |false=>rfl
   |true=>exact absurd (hw u u (wayB_iff.mp c)) (A25 _)
 cases c:Av ps r[j] r[i] with
 |false=>rfl
 |true=>
   have g:=hw _ _ (wayB_iff.mp c)
   have ix:∀ k (hk:k<r.length),r.idxOf r[k]=k:=λk hk=>by obtain⟨f1,_,f3⟩:=Kh (List.getElem_mem hk);exact(A1L hrn).mp (A02.mp f1).2
   rw[ix j hj,ix i hi] at g;omega
theorem G1 {ns:List Str}{ps:List (Str×Str)}(h:HalfW ns ps){x y:Str}(hx:x∈ns)(hy:y∈ns):cnt (Av (ps++[(x,y)])) ns=((ext (Av ps) ns.length ns).filter λr=>decide (r.idxOf x<r.idxOf y)).length:=by
 refine Ho (E9 _ _ _ h.nd) (A51 A1W (E9 _ _ _ h.nd)) λr=>?_;rw[A13,Dt _ _ _ _ h.nd rfl,Dt _ _ _ _ h.nd rfl,A2O]
 have key:∀ hp:r.Perm ns,okR (Av (ps++[(x,y)])) r↔okR (Av ps) r/\r.idxOf x<r.idxOf y:=λhp=>by
  rw[Mh h.nd (h.more hx hy).mem hp,Mh h.nd h.mem hp];constructor
  . intro g;exact⟨λp hpp=>g p (A0M _ hpp),g (x,y) ∅⟩
  rintro⟨g1,g2⟩ p hpp;rcases A08.mp hpp with hpp|hpp
  . exact g1 p hpp
  have:p=(x,y):=by simpa using hpp
  rw[this];exact g2
 constructor
 . rintro⟨hp,ho⟩;exact⟨⟨hp,((key hp).mp ho).1⟩,((key hp).mp ho).2⟩
 rintro⟨⟨hp,ho⟩,hi⟩;exact⟨hp,(key hp).mpr ⟨ho,hi⟩⟩
theorem a20 {ns:List Str}{ps:List (Str×Str)}(h:HalfW ns ps){x y:Str}(hx:x∈ns)(hy:y∈ns)(hxy:x≠y):cnt (Av (ps++[(x,y)])) ns+cnt (Av (ps++[(y,x)])) ns=cnt (Av ps) ns:=by
 rw[G1 h hx hy,G1 h hy hx]
 have key:∀ l:List (List Str),(∀ r∈l,r.idxOf x≠r.idxOf y)->(l.filter λr=>decide (r.idxOf x<r.idxOf y)).length+(l.filter λr=>decide (r.idxOf y<r.idxOf x)).length=l.length:=by
  intro l
  induction l with
  |nil=>intro _;rfl
  |cons r rs ih=>
    intro g;have g1:=g r ∅;have g2:=ih λt ht=>g t (by simp[ht]);rw[A15,A15,A0F];rcases Nat.lt_or_gt_of_ne g1 with c|c
    . rw[A0Q (A0U c),A0L (by rw[A0R (by omega)];decide),A0F];omega
    rw[A0L (by rw[A0R (by omega)];decide),A0Q (A0U c),A0F];omega
 refine key _ λr hr e=>hxy ?_;obtain⟨hp,_⟩:=(Dt _ _ _ _ h.nd rfl).mp hr;obtain⟨a1,_,_⟩:=Kh (hp.mem_iff.mpr hx);obtain⟨b1,_,_⟩:=Kh (hp.mem_iff.mpr hy);rw[e,b1] at a1;exact(A0X a1).symm
section
variable {prog:Program}{w:World}{A:Around}{E:Value->Shared->Prop}{I:Addr}{fp wr:List Addr}{n:Nat}{P:Nat->Value->Prop}{St:Nat->Heap->Prop}
end
section
variable {α:Type}[DecidableEq α]
theorem Wt {b:α->α->Bool}{L M:List α}(hn:L.Nodup)(hp:M.Perm L):cnt b M=cnt b L:=by
 have hm:M.Nodup:=hp.nodup_iff.mpr hn;unfold cnt;refine Ho (E9 _ _ _ hm) (E9 _ _ _ hn) λr=>?_;rw[Dt _ _ _ _ hm rfl,Dt _ _ _ _ hn rfl];constructor
 . rintro⟨h1,h2⟩;exact⟨h1.trans hp,h2⟩
 rintro⟨h1,h2⟩;exact⟨h1.trans hp.symm,h2⟩
theorem Ue {b c:α->α->Bool}{L:List α}(h:∀ x∈L,∀ y∈L,b x y=c x y):frF b L=frF c L:=by
 unfold frF;apply A3E;intro x hx
 have:(L.any λy=>b y x)=L.any λy=>c y x:=by
  rw[A1J,A1D,A1D];constructor
  . rintro⟨y,hy,e⟩;exact⟨y,hy,by rw[<- h y hy x hx];exact e⟩
  rintro ⟨y,hy,e⟩;exact⟨y,hy,by rw[h y hy x hx];exact e⟩
 rw[this]
theorem G3 {b c:α->α->Bool}:∀(n:Nat) {L:List α},L.length=n->L.Nodup->(∀ x∈L,∀ y∈L,b x y=c x y)->cnt b L=cnt c L
 |0,L,hl,_,_=>by have:=A0Y.mp hl;subst this;rfl
 |n+1,L,hl,hn,h=>by
   have hne:L≠[]:=by intro e;rw[e] at hl;cases hl
   rw[Nf hn hne,Nf hn hne,Ue h];apply Mj;intro x hx;have:=Bs hn (mem_frF.mp hx).1;exact G3 n (by omega) (Bx hn x) λu hu v hv=>h u (mem_lessF.mp hu).1 v (mem_lessF.mp hv).1
theorem Mq (A B:List α)(x:α):Ar (A++B) x=Ar A x++Ar B x:=by unfold Ar;rw[List.filter_append]
theorem V2 {l:List α}{p:α->Bool}(h:∀ x∈l,p x=false):l.any p=false:=by
 rw[Bool.eq_false_iff];intro e;obtain ⟨x,hx,hp⟩:=A1D.mp e;rw[h x hx] at hp
 cases hp
theorem Me {b:α->α->Bool}:∀(n:Nat) {A B:List α},A.length=n->(A++B).Nodup->(∀ x∈A,∀ y∈B,b x y=true/\b y x=false)->cnt b (A++B)=cnt b A*cnt b B
 |0,A,B,hl,_,_=>by have:=A0Y.mp hl;subst this;rw[A4E,S5,Nat.one_mul]
 |n+1,A,B,hl,hn,h=>by
   obtain⟨hA,hB,hAB⟩:=A1A.mp hn;have hne:A≠[]:=by intro e;rw[e] at hl;cases hl
   have hne2:A++B≠[]:=by simp[hne]
   have hfr:frF b (A++B)=frF b A:=by
    unfold frF;rw[A36]
    have e1:(A.filter λx=>!((A++B).any λy=>b y x))=A.filter λx=>!(A.any λy=>b y x):=by apply A3E;intro x hx;rw[List.any_append,V2 (l:=B) λy hy=>(h x hx y hy).2,Bool.or_false]
    have e2:(B.filter λx=>!((A++B).any λy=>b y x))=[]:=by
     rw [List.filter_eq_nil_iff];intro y hy
     cases A with
     |nil=>exact absurd rfl hne
     |cons a A=>have:((a :: A++B).any λz=>b z y)=true:=List.any_eq_true.mpr ⟨a,by simp,(h a ∅ y hy).1⟩;rw[this];decide
    rw[e1,e2,A33]
   rw[Nf hn hne2,hfr,Nf hA hne,<- Pe];apply Mj;intro x hx;have hxA:=(mem_frF.mp hx).1;have hxB:x∉B:=λhb=>hAB x hxA x hb rfl;have hlen:=Bs hA hxA;rw[Mq,Lc hxB];refine Me n (by omega) ?_ λu hu v hv=>h u (mem_lessF.mp hu).1 v hv;rw[A1A];exact⟨Bx hA x,hB,λu hu v hv=>hAB u (mem_lessF.mp hu).1 v hv⟩
end
section
variable {prog:Program}{w:World}{A:Around}{E:Value->Shared->Prop}{s:Shared}
structure RawAt (h:Heap)(d:Addr)(es:Array DictEntry)(ep:Nat):Prop where
 at_:∃ o,h.get? d=some o/\o.cls = .type "dict" /\ o.data = .dict es ep
theorem RawAt.ty (x:RawAt s.heap d es ep):s.TypeIs (.ref d) "dict":=let ⟨o,h,c,_⟩:=x.at_;⟨o,h,c⟩
end
def ItT (a:Addr)(o:Obj)(kvs:List (List Key×V))(bs:List Addr):It:=
 ⟨λi H=>H a=some (.frz o (.dT kvs))/\i<bs.length,λi H x H'=>H'=H/\∃ b,bs[i]? = some b/\x = .ref b,λi H=>H a=some (.frz o (.dT kvs))/\bs.length<=i⟩
def ad9 (H:Hp)(kvs:List (List Key×V))(bs:List Addr):Prop:=bs.length=kvs.length/\∀(i:Nat) kv,kvs[i]? = some kv->∃ b,bs[i]? = some b/\H b=some (.tup (kv.1.map kV))
def as4 (x:V)(H:Hp)(R:It->Hp->Prop):Prop:=∃ a kvs,x = .ref a/\H a=some (.dT kvs)/\∀ o bs,ad9 H kvs bs->R (ItT a o kvs bs) (upd H a (.frz o (.dT kvs)))
def iDT (tl:TE):TI:=fun σ H R=>tl σ H λx H1=>as4 x H1 R
theorem i_iDT {tl:TE}{σ:St}{H:Hp}{R:It->Hp->Prop}(k:tl σ H λx H1=>as4 x H1 R):iDT tl σ H R:=k
def keyT (ns:List Str)(q:Str->Bool):List Key:=(ns.filter λx=>!q x).map Sum.inr
section
variable {κ:Type}[DecidableEq κ]
end
def Yj (s z a:Nat):List (List Nat):=(List.range 10).map λk=>L7 s (s+a)++M3 (7*k % 26)++L7 s (s+z-a-1)
def a07 (s:Nat):List (List Nat):=(List.range 8).map (λk=>L7 s (s+1+k))++[M3 (s+9),M3 (s+11)]
def ao2:List Str:=["ahead","names","a","ab","name","row","ask","last","first","aheadahe"]
theorem nd41:∀ s<26,(a07 s).Nodup:=by decide +kernel
theorem ap7:((List.range 10).map λk=>M3 (7*k % 26)).Nodup:=by decide +kernel
theorem a05:Names ao2:=⟨by decide +kernel,by decide +kernel⟩
theorem nd40 (s z a:Nat):(Yj s z a).Nodup:=by refine D8 List.nodup_range λk hk j hj e=>?_;have e1:M3 (7*k % 26)=M3 (7*j % 26):=List.append_cancel_left (List.append_cancel_right e);exact E3 (f:=λk=>M3 (7*k % 26)) ap7 k hk j hj e1
theorem a39 {s z a:Nat}(hs:s<26)(ha:a<z)(hz:z<=8):Names ((Yj s z a).map txt):=by
 refine⟨Nr (nd40 s z a),λy hy=>?_⟩;obtain⟨l,hl,rfl⟩:=A09.mp hy;obtain⟨k,hk,rfl⟩:=A09.mp hl;have hm:7*k % 26<26:=Nat.mod_lt _ nofun;have e1:=Fy (a:=s) (b:=s+a) (by omega) (by omega);have e2:=Ij (i:=7*k % 26) (by omega);have e3:=Fy (a:=s) (b:=s+z-a-1) (by omega) (by omega);refine Ig (by simp only[List.length_append];omega) (by simp only[List.length_append];omega) λc hc=>?_;rcases A08.mp hc with hc|hc
 . rcases A08.mp hc with hc|hc
   . exact Hc c hc
   exact Hg c hc
 exact Hc c hc
theorem a50 {s:Nat}(hs:s<26):Names ((a07 s).map txt):=by
 refine⟨Nr (nd41 s hs),λz hz=>?_⟩;obtain⟨l,hl,rfl⟩:=A09.mp hz;rcases A08.mp hl with h|h
 . obtain⟨k,hk,rfl⟩:=A09.mp h;have hk:=A2Y.mp hk;have e:=Fy (a:=s) (b:=s+1+k) (by omega) (by omega);exact Ig (by omega) (by omega) Hc
 simp only[List.mem_cons,List.not_mem_nil,or_false] at h;rcases h with rfl|rfl
 . have e:=Ij (i:=s+9) (by omega);exact Ig (by omega) (by omega) Hg
 have e:=Ij (i:=s+11) (by omega);exact Ig (by omega) (by omega) Hg
theorem Ri {ns:List Str}{ys:List V}(h:ys.Perm (ns.map V.str)):∃ ls:List Str,ys=ls.map V.str/\ls.Perm ns:=by
 refine⟨ys.map λv=>match v with | .str z=>z | _=>"",?_,?_⟩
 . rw[A2F]
   have:∀ v∈ys,(V.str∘λv=>match v with | .str z=>z | _=>"") v=v:=λv hv=>by obtain⟨z,_,rfl⟩:=A09.mp (h.mem_iff.mp hv);rfl
   rw[A14 this];simp
 have:=h.map λv=>match v with | .str z=>z | _=>("":Str)
 rw[A2F] at this
 have e:ns.map ((λv=>match v with | .str z=>z | _=>("":Str))∘V.str)=ns:=by rw[show((λv=>match v with | .str z=>z | _=>("":Str))∘V.str)=id from rfl,List.map_id]
 rw[e] at this;exact this
theorem P7:∀ {ns:List Str} {as:List Addr} {i:Nat} {z:Str} {q:Addr},ns.Nodup->as.length=ns.length->ns[i]? = some z->D9 (Ep ns as) (Sum.inr z:Key) (.ref q)=Ep ns (as.set i q)
 | [],_,i,_,_,_,_,h=>by simp at h
 |n :: ns,[],i,_,_,_,hl,_=>by simp at hl
 |n :: ns,b :: as,0,z,q,hn,hl,h=>by
   have hz:n=z:=by simpa using h
   subst hz
   have:(Sum.inr n:Key)∉(Ep ns as).map (·.1):=by have:=L8 (as:=b :: as) hn;exact(A0T.mp this).1
   exact a56 (p:=(Sum.inr n,V.ref b)) this
 |n :: ns,b :: as,i+1,z,q,hn,hl,h=>by
   have hz:ns[i]? = some z:=by simpa using h
   have hne:¬ n=z:=λe=>(A0T.mp hn).1 (e ▸ A06 hz);have h1:¬ ((Sum.inr n:Key)=Sum.inr z):=λe=>hne (Sum.inr.inj e);show D9 ((Sum.inr n,V.ref b) :: Ep ns as) _ _=(Sum.inr n,V.ref b) :: Ep ns (as.set i q);rw[a22 (p:=((Sum.inr n:Key),V.ref b)) h1,P7 (List.nodup_cons.mp hn).2 (by simpa using hl) hz]
structure Ovr (H:Hp)(r:Addr)(ns:List Str)(as:List Addr)(ov:Str->List Str):Prop where
 len:as.length=ns.length
 top:H r=some (.dK (Ep ns as))
 row:∀(i:Nat) (z:Str) (a:Addr),ns[i]? = some z->as[i]? = some a->H a=some (.lst ((ov z).map V.str))
theorem Ovr.same {H H':Hp}{r:Addr}{ns:List Str}{as:List Addr}{ov:Str->List Str}(h:Ovr H r ns as ov)(e:Same H H'):Ovr H' r ns as ov:=⟨h.len,e _ _ h.top,λi z a hz ha=>e _ _ (h.row i z a hz ha)⟩
theorem Ovr.at {H:Hp}{r:Addr}{ns:List Str}{as:List Addr}{ov:Str->List Str}(h:Ovr H r ns as ov){x:Str}(hx:x∈ns):∃(i:Nat) (a:Addr),ns[i]? = some x/\as[i]? = some a:=by
 obtain⟨i,hi,e⟩:=A1V hx;have hi':i<as.length:=by rw[h.len];exact hi
 exact⟨i,as[i],by rw[A03 hi,e],A03 hi'⟩
def ovP (ov:Str->List Str)(x:Str)(fr:List Str):Str->List Str:=λz=>if z=x then ov z++fr else ov z
theorem Ovr.put {H H':Hp}{r q:Addr}{ns:List Str}{as:List Addr}{ov:Str->List Str}(hn:ns.Nodup)(h:Ovr H r ns as ov){x:Str}{i:Nat}(hx:ns[i]? = some x){fr:List Str}(e:ExtBut r H H')(hq:H q=some (.lst ((ov x++fr).map V.str)))(ht:H' r=some (.dK (D9 (Ep ns as) (Sum.inr x:Key) (.ref q)))):Ovr H' r ns (as.set i q) (ovP ov x fr):=by
 have hi:i<ns.length:=(A02.mp hx).1;refine⟨by rw[List.length_set,h.len],by rw[ht,P7 hn h.len hx],λj z a hz ha=>?_⟩
 by_cases c:i=j
 . subst c;rw[hx] at hz
   cases hz;rw[A2M (by rw[h.len];exact hi)] at ha
   cases ha;have:q≠r:=ne_of hq h.top (by intro z;cases z);rw[e _ _ this hq];unfold ovP;rw[A0Q rfl]
 rw[A1R c] at ha
 have hzx:z≠x:=λe=>by subst e;obtain⟨a1,a2⟩:=A02.mp hx;obtain⟨b1,b2⟩:=A02.mp hz;exact c ((A1L hn).mp (a2.trans b2.symm))
 have h0:=h.row j z a hz ha;have:a≠r:=ne_of h0 h.top (by intro z;cases z);rw[e _ _ this h0];unfold ovP;rw[A0L hzx]
structure OvOk (ns:List Str)(ps:List (Str×Str))(ov:Str->List Str):Prop where
 nd:∀ z∈ns,(ov z).Nodup
 way:∀ z∈ns,∀ y∈ov z,Way ps z y
theorem OvOk.len {ns:List Str}{ps:List (Str×Str)}{ov:Str->List Str}(h:OvOk ns ps ov)(hm:∀ p∈ps,p.1∈ns/\p.2∈ns){z:Str}(hz:z∈ns):(ov z).length<=ns.length:=
 B3 (h.nd z hz) λy hy=>by obtain⟨p,hp,e⟩:=A09.mp (h.way z hz y hy).right;exact e ▸ (hm p hp).2
def frsh (ov:Str->List Str)(p:Str×Str):List Str:=(p.2 :: ov p.2).filter λz=>!decide (z∈ov p.1)
theorem OvOk.put {ns:List Str}{ps:List (Str×Str)}{ov:Str->List Str}(h:OvOk ns ps ov)(irr:∀ x,¬ Way ps x x){p:Str×Str}(hp:p∈ps)(hm:p.1∈ns/\p.2∈ns):OvOk ns ps (ovP ov p.1 (frsh ov p)):=by
 have hnd:(p.2 :: ov p.2).Nodup:=A0T.mpr ⟨λhi=>irr _ (h.way _ hm.2 _ hi),h.nd _ hm.2⟩;refine⟨λz hz=>?_,λz hz y hy=>?_⟩
 . unfold ovP
   by_cases c:z=p.1
   . rw[A0Q c,A1A];refine⟨h.nd z hz,hnd.filter _,λa ha b hb e=>?_⟩;subst e;have:=(A13.mp hb).2;rw[c] at ha;rw[A0U ha] at this
     cases this
   rw[A0L c];exact h.nd z hz
 unfold ovP at hy
 by_cases c:z=p.1
 . rw[A0Q c] at hy;subst c;rcases A08.mp hy with hy|hy
   . exact h.way _ hz y hy
   rcases A0D.mp (A13.mp hy).1 with e|e
   . exact e ▸ .one hp
   exact .cons hp (h.way _ hm.2 _ e)
 rw[A0L c] at hy;exact h.way z hz y hy
theorem Ld {α:Type}[DecidableEq α]{b:α->α->Bool}(irr:∀ x,b x x=false)(tr:∀ x y z,b x y=true->b y z=true->b x z=true):∀(n:Nat) (L:List α),L.length=n->L.Nodup->0<cnt b L
 |0,L,hl,_=>by have:=A0Y.mp hl;subst this;exact Nat.zero_lt_one
 |n+1,L,hl,hn=>by
   have hne:L≠[]:=by intro e;rw[e] at hl;cases hl
   rw[Nf hn hne]
   cases hf:frF b L with
   |nil=>exact absurd hf (aj4 irr tr hne)
   |cons x t=>
     have hx:x∈frF b L:=by rw[hf];simp
     have:=Bs hn (mem_frF.mp hx).1;have:=Ld irr tr n (Ar L x) (by omega) (Bx hn x);rw[A0I,A2J];omega
section
variable {α:Type}[DecidableEq α]
end
section
variable {X:Cx}
end
theorem Way.sub {ps qs:List (Str×Str)}(h:∀ p∈qs,Way ps p.1 p.2){a b:Str}(g:Way qs a b):Way ps a b:=by
 induction g with
 |one e=>exact h _ e
 |cons e _ ih=>exact(h _ e).trans ih
def ItE (K:W.Frag)(a:Addr):It:=
 ⟨λi H=>∃ xs x,SqL K H a xs/\xs[i]? = some x,λi H v H'=>∃ t x,H t=none/\H'=upd H t (.tup [.int i,x])/\v = .ref t/\∀ xs,SqL K H a xs->xs[i]? = some x,λi H=>∃ xs,SqL K H a xs/\xs.length=i⟩
section
variable {X:Cx}{K:W.Frag}
def Xg (K:W.Frag)(vs:List V)(H:Hp)(R:It->Hp->Prop):Prop:=∃ a xs,vs=[.ref a]/\SqL K H a xs/\R (ItE K a) H
def ag1 (K:W.Frag)(ta:TA):TI:=fun σ H R=>ta σ H λvs H1=>Xg K vs H1 R
end
section
variable {K:W.Frag}{σ:St}{H:Hp}
theorem i_ienumL {ts:TA}{R:It->Hp->Prop}(k:ts σ H λvs H1=>Xg K vs H1 R):ag1 K ts σ H R:=k
end
end L2
namespace L2
open PySem PySem.Spec PyProof.Rows
open PySem PySem.W PyProof.Rows
section
variable {n:Nat}{r:Nat->Nat}
def PmA (n:Nat)(p:Array Nat):Prop:=p.Perm (List.range n).toArray
theorem PmA.size {p:Array Nat}(h:PmA n p):p.size=n:=by have:=Array.Perm.size_eq h;simpa using this
theorem PmA.lt {p:Array Nat}(h:PmA n p){i:Nat}(hi:i<n):p.getD i 0<n:=by
 have hs:=h.size;have hi':i<p.size:=by omega
 have e:p.getD i 0=p[i]:=by simp[Array.getD,hi']
 rw[e];have hm:p[i]∈p.toList:=by simp
 have:=(Array.perm_iff_toList_perm.mp h).mem_iff.mp hm;simpa using this
end
section
variable {prog:Program}{w:World}{A:Around}{E:Value->Shared->Prop}{z:Shared}
def PrT (h:Heap)(v:Value)(p:Str×Str):Prop:=∃ a o n t u,v = .ref a/\h.get? a=some o/\o.cls = .type "tuple" /\ o.data = .seq #[.str p.1 t,.str p.2 u] n
theorem PrT.keep {h h':Heap}{v:Value}{p:Str×Str}(x:PrT h v p)(k:∀ b o,h.get? b=some o->o.cls = .type "tuple" -> h'.get? b=some o):PrT h' v p:=by obtain⟨a,o,n,t,u,e,h1,h2,h3⟩:=x;exact⟨a,o,n,t,u,e,k a o h1 h2,h2,h3⟩
end
section
variable {X:Cx}{K:W.Frag}
end
end L2
namespace L2
open PySem PySem.Spec PyProof.Rows
theorem Half.sub {ns:List Str}{ps qs:List (Str×Str)}(h:Half ns ps)(hq:∀ p∈qs,p∈ps)(hl:qs.length<=ps.length):Half ns qs:=by obtain⟨ls,h1,h2⟩:=h.line;exact⟨h.names,h.few,A0P hl h.le,ls,h1,λp hp=>h2 p (hq p hp)⟩
def fxB (n:Str)(z:Str):Str:=if z=n then z ++ "x" else z
theorem Half.fresh {ns:List Str}{ps:List (Str×Str)}(h:Half ns ps){n:Str}(hn:n∈ns)(hl:n.length<8)(hx:n ++ "x" ∉ ns):Half (ns.map (fxB n)) (ps.map λp=>(fxB n p.1,fxB n p.2)):=by
 obtain⟨ls,h1,h2⟩:=h.line;refine⟨⟨D8 h.names.1 λa ha b hb e=>?_,λz hz=>?_⟩,by rw[A05];exact h.few,by rw[A05];exact h.le,ls.map (fxB n),h1.map _,λp hp=>?_⟩
 . unfold fxB at e
   by_cases c1:a=n<;>by_cases c2:b=n
   . rw[c1,c2]
   . rw[A0Q c1,A0L c2,c1] at e;exact absurd (e ▸ hb) hx
   . rw[A0L c1,A0Q c2,c2] at e;exact absurd (e ▸ ha) hx
   rw[A0L c1,A0L c2] at e;exact e
 . obtain⟨a,ha,rfl⟩:=A09.mp hz;unfold fxB
   by_cases c1:a=n
   . rw[A0Q c1,c1];have hi:=h.names.2 n hn;unfold M6 at hi ⊢;simp only[Bool.and_eq_true,decide_eq_true_eq] at hi ⊢;have e:(n ++ "x").length=n.length+1:=by rw[Str.length_append];rfl
     refine⟨⟨by omega,by omega⟩,?_⟩
     have e2:(n ++ "x").cps.toList=n.cps.toList++[120]:=by show(n.cps ++ #[120]).toList=_;simp
     rw[e2,List.all_append,hi.2];decide
   rw[A0L c1];exact h.names.2 a ha
 obtain⟨q,hq,rfl⟩:=A09.mp hp;obtain ⟨i,j,hij,hi,hj⟩:=h2 q hq;exact⟨i,j,hij,by rw[A0G,hi];rfl,by rw[A0G,hj];rfl⟩
theorem Way.swap {ps:List (Str×Str)}{x y:Str}(g:Way (ps.map λp=>(p.2,p.1)) x y):Way ps y x:=by
 induction g with
 |one h=>
   obtain⟨p,hp,e⟩:=A09.mp h
   cases e;exact .one hp
 |cons h _ ih=>
   obtain⟨p,hp,e⟩:=A09.mp h
   cases e;exact ih.snoc hp
section
variable {κ:Type}[DecidableEq κ]{P:Program}{w:World}{kd:KeyKind P w κ}{A:Around}{E:Value->Shared->Prop}{z:Shared}
end
section
variable {X:Cx}{K:W.Frag}
end
section
variable {P:Program}{w:World}{A:Around}{E:Value->Shared->Prop}{z:Shared}
end
def J7 (h:Heap)(c TI TO:Addr)(f0:Value)(f1:Bool):Prop:=h.get? c=some {cls:=.type "zip",dict:=none,data:=.fields #[f0,.bool f1,.bool false,.ref TI,.ref TO],slots:=#[]}
section
variable {P:Program}{w:World}{A:Around}{E:Value->Shared->Prop}{z:Shared}
theorem Ve {c TI TO i1 i2:Addr}{fp1:List Addr}{n:Nat}{P1:Nat->Value->Prop}{S1:Nat->Heap->Prop}{Q:PySem.Fin->Shared->Prop}
  (D1:Draws P w A i1 fp1 n P1 S1) (hc:J7 z.heap c TI TO .none false) (hTI:IsPair z.heap TI (.ref i1) (.ref i2)) (h1:S1 n z.heap) (c1:c∉fp1) (y1:i1≠c)
  (stop:∀ g e,(∀ b ob,b≠c->b≠i1->z.heap.get? b=some ob->g.get? b=some ob)->(∃ ob,g.get? e=some ob/\ob.cls = .type "StopIteration")->E (.ref e) {z with heap:=g}) :
  wpAny (model P w) A (Builtin.«zip.__next__» ⟨[.ref c],[]⟩) Q E z:=by
 show wpAny _ _ (field (.ref c) 2 >>= _) _ _ _;refine(A00 (A16 hc rfl (x:=.bool false) rfl ?_));show wpAny _ _ (field (.ref c) 3 >>= _) _ _ _;refine(A00 (A16 hc rfl (x:=.ref TI) rfl ?_));refine(A00 (A1Y hTI rfl ?_));show wpAny _ _ (Builtin.SmallTypes.ownedTupleIsFree (.ref c) >>= _) _ _ _;refine(A00 ?_);unfold Builtin.SmallTypes.ownedTupleIsFree;refine(A00 (A16 hc rfl (x:=.none) rfl (A04 ?_)));simp only[if_true];refine(A00 (A3W ?_));refine(A00 (A16 hc rfl (x:=.ref TO) rfl ?_));refine(A00 (A28 hc ∅ λg0 hc0 sb0=>?_));refine(A00 ?_);simp only[List.zipIdx_cons,List.zipIdx_nil,List.forIn_cons,List.forIn_nil];have h1':S1 n g0:=D1.frame n _ _ h1 λb hb ob q=>sb0.extBut b ob (λe=>c1 (e ▸ hb)) q;refine(A00 (A00 (A3L ?_)));show wpAny _ _ (Builtin.SmallTypes.nextOf (.ref i1) >>= _) _ _ _;refine(A00 (D1.done _ _ _ h1' λg1 e sb1 he=>?_));obtain⟨oe,hoe,hce⟩:=he;have hc1:J7 g1 c TI TO .ellipsis false:=sb1 _ _ (Ne.symm y1) hc0;have hez:e≠c:=λq=>by subst q;rw[show g1.get? _=_ from hc1] at hoe;cases hoe;simp at hce
 refine(A28 hc1 ∅ λg2 _ sb2=>stop g2 e (λb ob b1 b2 q=>sb2.extBut b ob b1 (sb1 b ob b2 (sb0.extBut b ob b1 q))) ⟨oe,sb2.extBut _ _ hez hoe,hce⟩)
end
section
variable {P:Program}{w:World}{A:Around}{E:Value->Shared->Prop}{z:Shared}{c TI TO i1 i2 D:Addr}{fp1 fp2:List Addr}{n:Nat}{P1 P2:Nat->Value->Prop}{S1 S2:Nat->Heap->Prop}
end
section
variable {P:Program}{w:World}{κ:Type}[DecidableEq κ]{kd:KeyKind P w κ}{A:Around}{E:Value->Shared->Prop}{c TI TO i1 i2 D:Addr}{fp1 fp2:List Addr}{n:Nat}{P1 P2:Nat->Value->Prop}{S1 S2:Nat->Heap->Prop}
end
abbrev tiO (l:Addr):Obj:={cls:=.type "tuple_iterator",data:=.fields #[.ref l,.int 0 0]}
abbrev zp1 (h:Heap)(p q:Obj):Heap:=(h.push p).push q
abbrev zp2 (h:Heap)(p q:Obj):Heap:=(zp1 h p q).push {cls:=.type "tuple",data:=.seq #[.ref h.objs.size,.ref (h.push p).objs.size]}
abbrev zp3 (h:Heap)(p q:Obj):Heap:=(zp2 h p q).push {cls:=.type "tuple",data:=.seq #[.none,.none]}
abbrev zp4 (h:Heap)(p q:Obj):Heap:=(zp3 h p q).push {cls:=.type "zip",data:=.fields #[.none,.bool false,.bool false,.ref (zp1 h p q).objs.size,.ref (zp2 h p q).objs.size]}
theorem Om (a b:Addr)(xs ys:Array Value) :
  Meets (Builtin.«zip.__new__» ⟨[.type "zip",.ref a,.ref b],[]⟩) (λ_ R s=>s.heap.IsTuple a xs/\s.heap.IsTuple b ys/\R (.ok (.ret (.ref (zp3 s.heap (tiO a) (tiO b)).objs.size))) {s with heap:=zp4 s.heap (tiO a) (tiO b)}):=
 .of_wp λprog w A R s both=>by
  obtain⟨hp,g,d,tk,os⟩:=s;obtain⟨ha,hb,go⟩:=both;have hsub:=sub_zip;have hA:Heap.IsTuple (Shared.heap ⟨hp,g,d,tk,os⟩) a xs:=ha;have hB:Heap.IsTuple (Shared.heap ⟨hp.push (tiO a),g,d,tk,os⟩) b ys:=let ⟨o,h1,h2⟩:=hb;⟨o,A01 _ h1,h2⟩
  wp_walk using A27 hA,A27 hB
  exact⟨_,rfl,go⟩
section
variable {P:Program}{w:World}{A:Around}{E:Value->Shared->Prop}{z:Shared}
theorem W7 {h:Heap}{p q:Obj}{Q:Value->Shared->Prop}{s:Shared}(hs:s.heap=h)
  (go:∀ g,J7 g (h.objs.size+4) (h.objs.size+2) (h.objs.size+3) .none false->IsPair g (h.objs.size+2) (.ref h.objs.size) (.ref (h.objs.size+1))->IsPair g (h.objs.size+3) .none .none ->
   g.get? h.objs.size=some p->g.get? (h.objs.size+1)=some q->g.objs.size=h.objs.size+5->(∀ b o,h.get? b=some o->g.get? b=some o)->Q (.ref (h.objs.size+4)) {s with heap:=g}) (hp:p.isFreed=false) (hq:q.isFreed=false) :
  Q (.ref (zp3 h p q).objs.size) {s with heap:=zp4 h p q}:=by
 have z1:(h.push p).objs.size=h.objs.size+1:=A1G ..;have z2:(zp1 h p q).objs.size=h.objs.size+2:=by rw[A1G,z1]
 have z3:(zp2 h p q).objs.size=h.objs.size+3:=by rw[A1G,z2]
 have z4:(zp3 h p q).objs.size=h.objs.size+4:=by rw[A1G,z3]
 have z5:(zp4 h p q).objs.size=h.objs.size+5:=by rw[A1G,z4]
 have g5:(zp4 h p q).get? (zp3 h p q).objs.size=some _:=A0E _ rfl;have g4:(zp4 h p q).get? (zp2 h p q).objs.size=some _:=A01 _ (A0E _ rfl);have g3:(zp4 h p q).get? (zp1 h p q).objs.size=some _:=A01 _ (A01 _ (A0E _ rfl));have g2:(zp4 h p q).get? (h.push p).objs.size=some q:=A01 _ (A01 _ (A01 _ (A0E _ hq)));have g1:(zp4 h p q).get? h.objs.size=some p:=A01 _ (A01 _ (A01 _ (A01 _ (A0E _ hp))));rw[z2,z3,z4] at g5;rw[z1,z2] at g3;rw[z3] at g4;rw[z1] at g2;rw[z4];exact go _ g5 g3 g4 g1 g2 z5 λb o k=>A01 _ (A01 _ (A01 _ (A01 _ (A01 _ k))))
theorem Rh {a b:Addr}{xs ys:Array Value}{Q:Value->Shared->Prop}(ha:z.heap.IsTuple a xs)(hb:z.heap.IsTuple b ys)
  (go:∀ g,J7 g (z.heap.objs.size+4) (z.heap.objs.size+2) (z.heap.objs.size+3) .none false->IsPair g (z.heap.objs.size+2) (.ref z.heap.objs.size) (.ref (z.heap.objs.size+1))->IsPair g (z.heap.objs.size+3) .none .none ->
   g.get? z.heap.objs.size=some (tiO a)->g.get? (z.heap.objs.size+1)=some (tiO b)->g.objs.size=z.heap.objs.size+5->(∀ b o,z.heap.get? b=some o->g.get? b=some o)->Q (.ref (z.heap.objs.size+4)) {z with heap:=g}) :
  wpAny (model P w) A (call (.type "zip") [.ref a,.ref b]) Q E z:=by
 refine callType_new F.called_zip nofun (F.typeCall_zip_2 _ _) (F.newCall_zip_2 _ _) (λobj=>F.args_object_init_3 obj _ _) F.entry_zip_new (Om a b xs ys) ⟨ha,hb,?_⟩;refine W7 (Q:=λv s'=>s'.TypeIs v "zip" /\ Q v s') rfl (λg g5 g3 g4 g1 g2 z5 kp=>⟨⟨_,g5,rfl⟩,go g g5 g3 g4 g1 g2 z5 kp⟩) rfl rfl
end
section
variable {X:Cx}{K:W.Frag}
end
section
variable {K:W.Frag}{H:Hp}{Q:VK}
end
section
variable {ns ns':List Str}{ps ps' bs:List (Str×Str)}
end
theorem Half.map {ns:List Str}{ps:List (Str×Str)}(h:Half ns ps){f:Str->Str}(hN:Names (ns.map f)):Half (ns.map f) (ps.map λp=>(f p.1,f p.2)):=by obtain⟨ls,h1,h2⟩:=h.line;refine⟨hN,by rw[A05];exact h.few,by rw[A05];exact h.le,ls.map f,h1.map _,λp hp=>?_⟩;obtain⟨q,hq,rfl⟩:=A09.mp hp;obtain⟨i,j,hij,hi,hj⟩:=h2 q hq;exact⟨i,j,hij,by rw[A0G,hi];rfl,by rw[A0G,hj];rfl⟩
section
variable {ns:List Str}{ps:List (Str×Str)}
end
section
variable {P:Program}{w:World}{A:Around}{E:Value->Shared->Prop}{z:Shared}
theorem RawAt.at {g g':Heap}{e:Addr}{es:Array DictEntry}{ep:Nat}(x:RawAt g e es ep)(k:∀ o,g.get? e=some o->g'.get? e=some o):RawAt g' e es ep:=let ⟨o,h,r⟩:=x.at_;⟨⟨o,k o h,r⟩⟩
end
section
variable {X:Cx}{K:W.Frag}
end
section
variable {α:Type}[DecidableEq α]{b:α->α->Bool}{L:List α}
end
def LvA (H:Hp)(ms:List Str)(la:Addr)(es:List (Str->Bool)):Prop:=∃ bs:List Addr,H la=some (.lst (bs.map V.ref))/\bs.length=es.length/\∀(i:Nat) e,es[i]? = some e->∃ b,bs[i]? = some b/\H b=some (.tup ((keyT ms e).map kV))
theorem LvA.keep {H H':Hp}{ms:List Str}{la:Addr}{es:List (Str->Bool)}(h:LvA H ms la es)(h1:∀ xs,H la=some (.lst xs)->H' la=some (.lst xs))(h2:∀ b xs,H b=some (.tup xs)->H' b=some (.tup xs)):LvA H' ms la es:=by obtain ⟨bs,a1,a2,a3⟩:=h;exact⟨bs,h1 _ a1,a2,λi e he=>let ⟨b,b1,b2⟩:=a3 i e he;⟨b,b1,h2 _ _ b2⟩⟩
def xB:List Value:=[.type "ValueError",.type "Exception",.type "BaseException",.type "object"]
def a44 (K:W.Frag)(C:Addr):Bool:=match K.lookup C with
 |some ⟨.type "type",_,.cls cd,sl⟩=>(match cd.mro,sl.toList with
   |.ref D :: bm,[_,_,_,_,some (.builtin n),_]=>D==C&&n == "ValueError.__new__" && !cd.hasDel&&cd.hasDict&&W.tailIn K xB bm
   |_,_=>false)
 |_=>false
theorem Hq {K:W.Frag}{C:Addr}(q:a44 K C=true):∃(nm qn:Str) (N:Addr) (bs bm:List Value) (sn:List Str) (sub:List Value) (ab:Bool) (col:Option Bool) (dd:Option Addr) (k0 k1 k2 k3 k5:Option Value),
  K.lookup C=some (excClassObj nm qn C N bs bm true sn sub ab col dd k0 k1 k2 k3 k5 "ValueError.__new__")/\W.tailIn K xB bm=true:=by
 unfold a44 at q
 split at q
 . rename_i dd cd sl ho
   split at q
   . rename_i D bm k0 k1 k2 k3 n k5 hm hs;simp only[Bool.and_eq_true,beq_iff_eq,Bool.not_eq_true'] at q;obtain⟨⟨⟨⟨e1,e2⟩,hdel⟩,hdc⟩,ht⟩:=q;subst e1 e2;obtain⟨nm,bs,mro,ns,qn,hd,sn,sub,ab,col,del⟩:=cd;dsimp only at hm hdel hdc;subst hm hdel hdc
     have e3:sl = #[k0,k1,k2,k3,some (.builtin "ValueError.__new__"),k5]:=by obtain⟨l⟩:=sl;simp only at hs;rw[hs]
     subst e3;exact⟨nm,qn,ns,bs,bm,sn,sub,ab,col,dd,k0,k1,k2,k3,k5,ho,ht⟩
   cases q
 cases q
theorem Rs (self:Value){h:Heap}{l:List Value}(T:OwnTail h xB l):refuseLoop self "__setattr__" l=pure ():=by
 induction T with
 |base=>exact PySem.F.store_ValueError.passes self
 |own _ _ _ _ ih=>rw[refuseLoop_ref];exact ih
theorem Xj {h:Heap}{l:List Value}(T:OwnTail h xB l):l.contains (.type "BaseException")=true:=T.hasType (by decide +kernel)
abbrev a68 (rest:List Value):Obj:={cls:=.type "tuple",data:=.seq rest.toArray}
abbrev Xr (C t:Addr):Obj:={cls:=.ref C,data:=.fields #[.ref t,.none,.none,.none,.bool false,.none]}
section
variable {prog:Program}{w:World}{A:Around}{E:Value->Shared->Prop}{h:Heap}{g:Array GenState}{d:Drawn}{t:Nat}{os:OsState}{K:W.Frag}{C fI:Addr}{rest:List Value}
theorem W9 {Q:Fin->Shared->Prop}(X:K.In h)(q:a44 K C=true)(hi:W.findIn K (.ref C) "__init__" = some (some (.ref fI)))(ht:W.typeIn K (.ref fI)=some (.type "function"))(hr:rest.length<=sizeLine)
  (hq:wpAny (model prog w) A (call (.ref fI) (.ref (h.objs.size+1) :: rest)) (λr s'=>r = .none/\Q (.done (.ret (.ref (h.objs.size+1)))) s') E ⟨(h.push (a68 rest)).push (Xr C h.objs.size),g,d,t,os⟩) :
  wpAny (model prog w) A (Builtin.«type.__call__» ⟨.ref C :: rest,[]⟩) Q E ⟨h,g,d,t,os⟩:=by
 obtain⟨nm,qn,N,bs,bm,sn,sub,ab,col,dd,k0,k1,k2,k3,k5,hl,htl⟩:=Hq q;have F:=PySem.F.excBase_ValueError;have T:OwnTail h xB bm:=A39 X htl;have hC:=X _ _ hl
 repeat (first | (with_reducible refine A2B hC ?_) | (with_reducible refine wpAny_madeBy_exc hC ?_) | wp_step)
 refine codeAny_call_builtin_code (A50 _ F.quiet) (wpAny_check_new_subT F T hC (codeAny_exc_new_subT F T hC ?_ hr));show wpAny _ _ _ _ _ _;have X1:K.In ((h.push (a68 rest)).push (Xr C h.objs.size)):=X.keeps λb o e=>A01 _ (A01 _ e);have hC1:=X1 _ _ hl;have hg1:((h.push (a68 rest)).push (Xr C h.objs.size)).get? (h.objs.size+1)=some (Xr C h.objs.size):=by heap_get
 have hcC:(Value.ref C :: bm).contains (.ref C)=true:=by simp
 unfold isInstance
 repeat (first | (with_reducible refine A2B hg1 ?_) | (with_reducible refine A4T hC1 ?_;rw[hcC]) | wp_step)
 show wpAny _ _ (typeLookup (.ref C) _) _ _ _;refine(A3K (M:=model prog w) X1 hi).at ?_;refine A1P (A00 ((W.bind_fn X1 _ ht).at ?_));refine A00 (A1X hq (λr s' hr'=>?_) λ_ _ x=>x);obtain⟨rfl,hQ⟩:=hr'
 wp_walk
 exact hQ
theorem a03 {Q:Value->Shared->Prop}(X:K.In h)(q:a44 K C=true)(hi:W.findIn K (.ref C) "__init__" = some (some (.ref fI)))(ht:W.typeIn K (.ref fI)=some (.type "function"))(hr:rest.length<=sizeLine)
  (hq:wpAny (model prog w) (A.under (.builtin "type.__call__" ⟨.ref C :: rest,[]⟩)) (call (.ref fI) (.ref (h.objs.size+1) :: rest)) (λr s'=>r = .none/\Q (.ref (h.objs.size+1)) s') E ⟨(h.push (a68 rest)).push (Xr C h.objs.size),g,d,t,os⟩) :
  wpAny (model prog w) A (call (.ref C) rest) Q E ⟨h,g,d,t,os⟩:=by
 obtain⟨nm,qn,N,bs,bm,sn,sub,ab,col,dd,k0,k1,k2,k3,k5,hl,htl⟩:=Hq q;have hC:=X _ _ hl;have f1:=tc_lookup;have f2:=tc_bind (.ref C);have tt:(⟨h,g,d,t,os⟩:Shared).TypeIs (.ref C) "type":=⟨_,hC,rfl⟩;refine A4L (codeAny_of_tree ?_);show wpAny _ _ (callAny (.ref C) _) _ _ _
 repeat (any_goals (first | assumption | (with_reducible refine A2B hC ?_) | wp_step))
 refine⟨rfl,codeAny_call_builtin_at (A50 _ (by decide +kernel)) entry_typeCall (wpAny_check_type_call_sub hC (W9 X q hi ht hr ?_))⟩;exact hq
end
end L2
namespace L2
open PySem PySem.Spec PyProof.Rows
open PySem PySem.Spec PyProof.Rows Builtin Builtin.ObjectAttr
structure XC (K:W.Frag)(C:Addr):Prop where
 ex:a44 K C=true
 sa:W.findIn K (.ref C) "__setattr__" = some (some (.builtin "object.__setattr__"))
 ga:W.findIn K (.ref C) "__getattribute__" = some (some (.builtin "BaseException.__getattribute__"))
 gt:W.findIn K (.ref C) "__getattr__" = some none
 cl:W.findIn K (.ref C) "__class__" = some (some (.builtin "object.__class__"))
 cg:W.specialIn K (.builtin "object.__class__") "__get__" = some (some (.builtin "getset_descriptor.__get__"))
 ct:W.takesIn K (.builtin "object.__class__")=some true
section
variable {prog:Program}{w:World}{A:Around}{E:Value->Shared->Prop}{s:Shared}{K:W.Frag}{C x:Addr}{name:Str}{v:Value}
theorem XC.cls (c:XC K C):∃ cd,W.clsIn K C=some cd/\cd.hasDict=true/\∃ bm,cd.mro = .ref C :: bm/\W.tailIn K xB bm=true:=by obtain⟨nm,qn,N,bs,bm,sn,sub,ab,col,dd,k0,k1,k2,k3,k5,hl,htl⟩:=Hq c.ex;exact⟨_,by unfold W.clsIn;rw[hl],rfl,bm,rfl,htl⟩
theorem XC.mro (c:XC K C){h:Heap}(X:K.In h){T:String}(hT:xB.contains (.type T)=true):W.mroIn K C (.type T)=some true:=by obtain⟨cd,hc,_,bm,hm,ht⟩:=c.cls;unfold W.mroIn;rw[hc,A3I,hm,A0L ∅];rw[A1Q,(A39 X ht).hasType hT,A3R]
theorem Xv {R:Result->Shared->Prop}{ox:Obj}{od:Option Obj}{tk:Tok}(c:XC K C)(X:K.In s.heap)(I:W.InstAt s.heap x ox C od)(ht:W.findIn K (.ref C) name=some none)
  (h:∀ b,wpAny (model prog w) A.in1 (storeInOwnDict (.ref x) (.ref C) (.str name tk) name v b)
   (λfin s'=>match fin with | .done f=>R (.ok f) s' | .again c'=>c'.quiet=true/\codeAny (model prog w) A c' R s') (λe s'=>R (.error e) s') s) :
  codeAny (model prog w) A (.call (.builtin "object.__setattr__") ⟨[.ref x,.str name tk,v],[]⟩) R s:=by
 have SF:=PySem.F.store_object;obtain⟨cd,hc,hd,bm,hmr,htl⟩:=c.cls;have T:=A39 X htl;have sub:W.Looks (model prog w) s.heap (isInstance (.ref x) (.type "object")) true:=I.type.andThen (A4U X (c.mro X (by decide +kernel)));refine A4O SF.slot.plain SF.entry (@PySem.W.check_slot (model prog w) _ _ s "object.__setattr__" "object" "__setattr__" (.ref x) [.str name tk,v] [] _ SF.kind SF.split sub (SF.args (.ref x) (.str name tk) v) ?_);have hm:W.Looks (model prog w) s.heap (mroOf (.ref C)) cd.mro:=(A4V X hc).andThen .now;have l3:W.Looks (model prog w) s.heap (storeTaker? none) none:=.now;rw[W.osa_eq,refuse_eq];refine A00 (A00 (I.type.here (A00 (hm.here ?_))));rw[hmr,refuseLoop_ref,Rs _ T];refine A04 (A00 (I.type.here (A00 ((A3K X ht).here (A00 (l3.here ?_))))));exact h _
theorem a54 {Q:Unit->Shared->Prop}{vs:Array Value}{sl:Array (Option Value)}(c:XC K C)(X:K.In s.heap)(hx:s.heap.get? x=some ⟨.ref C,none,.fields vs,sl⟩)(ht:W.findIn K (.ref C) name=some none)
  (hq:∀ h',h'.Ns1 s.heap.objs.size (λy=>if y=name then some v else none)->h'.get? x=some ⟨.ref C,some s.heap.objs.size,.fields vs,sl⟩->(∀ b o,b≠x->s.heap.get? b=some o->h'.get? b=some o)->Q () {s with heap:=h',toks:=s.toks+2}) :
  wpAny (model prog w) A (setAttr (.ref x) name v) Q E s:=by
 have J:W.InstAt s.heap x ⟨.ref C,none,.fields vs,sl⟩ C none:=⟨hx,rfl,rfl,A1U⟩;obtain⟨cd,hc,hd,bm,hmr,htl⟩:=c.cls;refine W.set_plain X J c.sa (Xv (s:={s with toks:=s.toks+1}) c X J ht λb=>?_)
 refine A00 (A04 (A00 (A00 (wpAny_loadPart hx (A00 (W.Looks.here (s:={s with toks:=s.toks+1}) (A4V X hc) ?_))))))
 rw[hd];have hx1:(s.heap.push {cls:=.type "dict",data:=.dict #[]}).get? x=some ⟨.ref C,none,.fields vs,sl⟩:=A01 _ hx;have hxs:x≠s.heap.objs.size:=A0O (A07 hx);refine A00 (wpAny_alloc' ?_);refine A00 (wpAny_update' hx1 ?_);refine A04 ?_
 have hgd:((s.heap.push {cls:=.type "dict",data:=.dict #[]}).update x λo=>{o with dict:=some s.heap.objs.size}).get? s.heap.objs.size=some {cls:=.type "dict",data:=.dict #[]}:=
  (Heap.get?_update_ne _ _ _ _ hxs.symm).trans (Heap.get?_push_at rfl rfl)
 have hnd:((s.heap.push {cls:=.type "dict",data:=.dict #[]}).update x λo=>{o with dict:=some s.heap.objs.size}).Ns s.heap.objs.size (λ_=>none):=
  ⟨_,#[],_,hgd,rfl,λe he=>absurd he ∅,λ_=>rfl⟩
 show wpAny _ _ (storeInDict s.heap.objs.size (.str name _) name v) _ _ _;unfold storeInDict newKeyGuard;refine A00 (A04 (A00 (wpAny_nsSet1 (Heap.Ns1.of_empty hnd) λh' hn' hs=>?_)));obtain⟨oD,esD,epD,hoD,hdD,hcD⟩:=hn'.count (Within.cons name v Within.nil);refine A00 (wpAny_lookBehind hoD (by rw[hdD];exact pastItsLine_dict (A0P hcD (by rw[A0F,List.length_nil,A11];omega))) ?_);refine A04 (hq h' hn' ((hs.2 x hxs).trans (A2S _ hx1 rfl)) λb o hb hbo=>?_);exact(hs.2 b (A0O (A07 hbo))).trans ((Heap.get?_update_ne _ _ _ _ hb).trans (A01 _ hbo))
theorem Za {Q:Unit->Shared->Prop}{dx:Addr}{mA:Str->Option Value}{ns:List Str}{vs:Array Value}{sl:Array (Option Value)}(c:XC K C)(X:K.In s.heap)(hx:s.heap.get? x=some ⟨.ref C,some dx,.fields vs,sl⟩)(hn:s.heap.Ns1 dx mA)
  (hw:Within mA ns) (hz:ns.length<=sizeLine) (ht:W.findIn K (.ref C) name=some none)
  (hq:∀ h',h'.Ns1 dx (λy=>if y=name then some v else mA y)->Heap.SameBut dx s.heap h'->Q () {s with heap:=h',toks:=s.toks+2}) :
  wpAny (model prog w) A (setAttr (.ref x) name v) Q E s:=by
 obtain⟨od,_,_,hod,_⟩:=id hn;have J:W.InstAt s.heap x ⟨.ref C,some dx,.fields vs,sl⟩ C (some od):=⟨hx,rfl,rfl,hod⟩;obtain⟨cd,hc,hd,bm,hmr,htl⟩:=c.cls;refine W.set_plain X J c.sa (Xv (s:={s with toks:=s.toks+1}) c X J ht λb=>?_)
 refine A00 (A04 (A00 (A00 (wpAny_loadPart hx (A00 (W.Looks.here (s:={s with toks:=s.toks+1}) (A4V X hc) ?_))))))
 rw[hd];refine A04 (a:=some dx) (A00 (A04 (A00 ?_)));refine wpAny_nsSet1 (s:={s with toks:=s.toks+1}) hn λh' hn2 hs2=>?_
 obtain⟨oD,esD,epD,hoD,hdD,hcD⟩:=hn2.count (Within.cons name v hw);refine A00 (wpAny_lookBehind hoD (by rw[hdD];exact pastItsLine_dict (A0P hcD (by rw[A0F];omega))) ?_);exact A04 (hq _ hn2 hs2)
theorem Wx {M:Model}{ox:Obj}{od:Option Obj}{nameV:Value}{Q:Unit->Shared->Prop}(c:XC K C)(X:K.In s.heap)(I:W.InstAt s.heap x ox C od)(hq:Q () s) :
  wpAny M A (checkBuiltinCall "BaseException.__getattribute__" ⟨[.ref x,nameV],[]⟩) Q E s:=by
 have sub:W.Looks M s.heap (isInstance (.ref x) (.type "BaseException")) true:=I.type.andThen (A4U X (c.mro X (by decide +kernel)));exact @PySem.W.check_slot M _ _ s "BaseException.__getattribute__" "BaseException" "__getattribute__" (.ref x) [nameV] [] _ (by decide +kernel) (by decide +kernel) sub (PySem.F.args_bexc_ga (.ref x) nameV) hq
theorem ai8 {fill expr:Bool}{tk:Tok}{Q:Value->Shared->Prop}{ox:Obj}{od:Option Obj}(c:XC K C)(X:K.In s.heap)(I:W.InstAt s.heap x ox C od)
  (h:wpAny (model prog w) A.in1 (Builtin.«object.__getattribute__» ⟨[.ref x,.str name tk],[]⟩)
   (λfin s'=>match fin with | .done (.ret v)=>wpAny (model prog w) A (handedOut v) Q E s' | _=>False) (λ_ _=>False) s):wpAny (model prog w) A (getAttrBy (.ref x) (.str name tk) fill expr) Q E s:=by
 obtain⟨hh,g,d,t,os⟩:=s;have l0:=I.type (M:=model prog w);have l1:=A3K (M:=model prog w) X c.ga;have l2:=A3K (M:=model prog w) X c.gt;have f3:=PySem.F.excAttr_ValueError.ga.bind (.ref x);have e2:(Value.builtin "BaseException.__getattribute__" == Value.builtin "object.__getattribute__")=false:=by decide +kernel
 unfold getAttrBy;refine A1P (A00 (l0.at (A00 (l1.at ?_))));show wpAny _ _ (if(onTheHeap (Value.ref C)&&Value.builtin "BaseException.__getattribute__" == Value.builtin "object.__getattribute__")=true then _ else _) _ _ _
 rw[e2,Bool.and_false,A0L nofun];unfold getAttrByItsOwn hookBefore;rw[A0Q (show onTheHeap (Value.ref C)=true from rfl)];refine A00 (l2.at (A00 (wpAny_attempt (A1P ?_))));unfold callGetattribute;rw[A0L (by cases expr<;>decide)]
 unfold boundAndCalled;rw[f3];refine A00 (A04 (A4L (A4O PySem.F.excAttr_ValueError.ga.plain PySem.F.entry_bexc_ga (Wx (s:=⟨hh,g,d,t,os⟩) c X I ?_))));refine A1X h (λfin s' z=>?_) λ_ _ z=>z.elim;rcases fin with (_ | _ | _ | _) | _<;>first | exact z | exact z.elim
theorem a81 {expr:Bool}{Q:Value->Shared->Prop}{ox od:Obj}(c:XC K C)(X:K.In s.heap)(I:W.InstAt s.heap x ox C (some od))(ht:W.findIn K (.ref C) name=some none)(hl:W.lookIn name od=some (some v))
  (hv:W.handedIn v=true) (h:Q v {s with toks:=s.toks+1}):wpAny (model prog w) A (getAttr (.ref x) name expr) Q E s:=by
 obtain⟨hh,g,d,t,os⟩:=s;obtain⟨cd,hc,hd,bm,hmr,htl⟩:=c.cls;have l0:=I.type (M:=model prog w)
 have hf:W.findObj K C (some od) name=some (.value v):=by unfold W.findObj W.ownOf;simp only[hc,ht,hd,hl,Option.bind_some,if_true]
 have l3:=W.looks_find (M:=model prog w) X I hf;unfold getAttr;refine A00 (wpAny_mkText (ai8 (s:=⟨hh,g,d,t+1,os⟩) c X I ?_));refine A00 (A04 (A00 (A04 (A00 (l0.at (A00 (l3.at ?_)))))));refine A04 ?_;show wpAny _ _ (handedOut v) _ _ _;rw[W.handedOut_of hv];exact A04 h
theorem Wb {Q:Option Value->Shared->Prop}{ox:Obj}{od:Option Obj}(c:XC K C)(X:K.In s.heap)(I:W.InstAt s.heap x ox C od)(h:Q (some (.ref C)) {s with toks:=s.toks+1}) :
  wpAny (model prog w) A (getAttr? (.ref x) "__class__") Q E s:=by
 obtain⟨hh,g,d,t,os⟩:=s;obtain⟨cd,hc,hd,bm,hmr,htl⟩:=c.cls;have l0:=I.type (M:=model prog w)
 have hf:W.findObj K C od "__class__" = some (.bind (.builtin "getset_descriptor.__get__") (.builtin "object.__class__")):=by unfold W.findObj;simp only[hc,c.cl,c.cg,c.ct,Option.bind_some]
 have l3:=W.looks_find (M:=model prog w) X I hf;unfold getAttr? getAttrBy?;refine A00 (wpAny_mkText (A00 (wpAny_attempt ?_)));refine ai8 (s:=⟨hh,g,d,t+1,os⟩) c X I ?_;refine A00 (A04 (A00 (A04 (A00 (l0.at (A00 (l3.at ?_)))))));show wpAny _ _ (holding [Value.builtin "object.__class__"] (call (.builtin "getset_descriptor.__get__") [.builtin "object.__class__",.ref x,.ref C]) >>= ret) _ _ _;refine A00 (A1P (A4L (W.class_get (s:=⟨hh,g,d,t+1,os⟩) (ox:=ox) (od:=od) X I (c.mro X (by decide +kernel)) ?_)));refine A04 ?_;show wpAny _ _ (handedOut (.ref C)) _ _ _;rw[W.handedOut_of rfl];exact A04 (A04 h)
theorem U5 {od:Option Obj}{ox:Obj}(c:XC K C):W.KitX K (.ref x) (.ref C) (λh=>W.InstAt h x ox C od) where
 ty:=λ_ _ _ I=>I.type
 it:=λ_ _ X _=>by obtain⟨nm,qn,N,bs,bm,sn,sub,ab,col,dd,k0,k1,k2,k3,k5,hl,htl⟩:=Hq c.ex;intro A' Q' E' s' k q;unfold isType loadHead;exact A00 (wpAny_loadPart (k _ _ (X _ _ hl)) (A04 q))
 ne:=λh tp dd its n sl X htp=>by obtain⟨nm,qn,N,bs,bm,sn,sub,ab,col,dd,k0,k1,k2,k3,k5,hl,htl⟩:=Hq c.ex;refine Bool.eq_false_iff.mpr λq=>?_;have e:C=tp:=A52 (A1Z.mp q);subst e;have z:=congrArg Obj.cls (A0X ((X _ _ hl).symm.trans htp));exact absurd (Value.type.inj z) nofun
 ca:=λX I k=>Wb c X I k
end
end L2
namespace L2
open PySem PySem.Spec PyProof.Rows
def exG (n:Bool)(a C:Addr)(od:Option Addr):HO:=.ext λh=>∃ vs sl,h.get? a=some ⟨.ref C,od,.fields vs,sl⟩/\(n=true->vs[1]? = some .none)
abbrev exO (a C:Addr)(od:Option Addr):HO:=exG true a C od
def xdO (dx:Addr)(fs:List (Str×V)):HO:=.ext λh=>∃ mA,h.Ns1 dx mA/\∀ f,RelO (fs.lookup f) (mA f)
section
variable {P:Program}{w:World}{H:Hp}{h:Heap}{a C dx:Addr}{od:Option Addr}{fs:List (Str×V)}
theorem exG_ok {n:Bool}:ObjOk P w H h a (exG n a C od)↔∃ vs sl,h.get? a=some ⟨.ref C,od,.fields vs,sl⟩/\(n=true->vs[1]? = some .none):=
 ⟨λx=>x.1,λ⟨vs,sl,e,z⟩=>⟨⟨vs,sl,e,z⟩,⟨_,e⟩,λh1 h2 ⟨vs,sl,e,z⟩ k=>⟨vs,sl,k _ e,z⟩⟩⟩
theorem exO_ok:ObjOk P w H h a (exO a C od)↔∃ vs sl,h.get? a=some ⟨.ref C,od,.fields vs,sl⟩/\(true=true->vs[1]? = some .none):=exG_ok
theorem xdO_ok:ObjOk P w H h dx (xdO dx fs)↔∃ mA,h.Ns1 dx mA/\∀ f,RelO (fs.lookup f) (mA f):=
 ⟨λx=>x.1,λ⟨mA,n,r⟩=>⟨⟨mA,n,r⟩,(let ⟨o,_,_,e,_⟩:=n;⟨o,e⟩),λh1 h2 ⟨mA,n,r⟩ k=>⟨mA,(let ⟨o,es,ep,e,z⟩:=n;⟨o,es,ep,k _ e,z⟩),r⟩⟩⟩
end
def Gv (K:W.Frag)(C B:Addr):Bool:=(W.clsIn K C).any λcd=>cd.mro == .ref C :: .ref B :: xB
section
variable {K:W.Frag}{C B D:Addr}
theorem XC.ty (c:XC K C):W.typeIn K (.ref C)=some (.type "type"):=by obtain⟨nm,qn,N,bs,bm,sn,sub,ab,col,dd,k0,k1,k2,k3,k5,hl,htl⟩:=Hq c.ex;show Option.map (λx=>x.cls) (List.lookup C K)=_;rw[hl];rfl
theorem Uf (c:XC K C)(hm:Gv K C B=true)(d:XC K D):W.kitOne K (.ref C) (.ref D)=some (C==D||D==B):=by
 unfold W.kitOne
 by_cases e:C=D
 . subst e;simp
 have e1:(Value.ref C==Value.ref D)=false:=A0S.mpr λq=>e (A52 q);have e2:(C==D)=false:=A0S.mpr e;rw[A0L (by rw[e1];decide),e2,A44];unfold W.kitCls;obtain⟨cd,hc,_⟩:=d.cls;dsimp only;rw[A0Q (by rw[hc,d.ty];rfl)];show W.mroIn K C (.ref D)=_;obtain⟨cd,hc,hx⟩:=W.any_some hm;unfold W.mroIn;rw[hc,A3I,A1Z.mp hx,A0L ∅];rw[A1Q,A1Q,show xB.contains (Value.ref D)=false from rfl,Bool.or_false];congr 1;rw[show(Value.ref D==Value.ref C)=false from A0S.mpr λq=>e (A52 q).symm,A44]
 by_cases eb:D=B
 . subst eb;simp
 rw[show(D==B)=false from A0S.mpr eb,A0S.mpr λq=>eb (A52 q)]
end
section
variable {X:Cx}{pins:List (Addr×Obj)}{σ:St}{H:Hp}{s:Shared}{a C dx:Addr}{fs:List (Str×V)}{f:Str}{v:V}{A:Around}{E:Value->Shared->Prop}
theorem Zh {n' b:Bool}{Q:Value->Shared->Prop}(I:Inv X pins σ H s)(e:H a=some (exG n' a C (some dx)))(ed:H dx=some (xdO dx fs))(c:XC X.K C)(n:C6 X.K C f)(l:fs.lookup f=some v)
  (h:∀ u s',Inv X pins σ H s'->RelV v u->Q u s'):wpAny (model X.prog X.w) A (getAttr (.ref a) f b) Q E s:=by
 obtain⟨vs,sl,e1,_⟩:=exG_ok.mp (I.hok a _ e);obtain⟨mA,hn,r⟩:=xdO_ok.mp (I.hok dx _ ed);obtain⟨u,hu,ru⟩:=RelO.some_of (v:=v) (o:=mA f) (by rw[<- l];exact r f);obtain⟨od,hod,hl⟩:=Ny hn;exact a81 c I.kIn ⟨e1,rfl,rfl,hod⟩ n (by rw[hl,hu]) (U6 ru) (h u _ (I.tok _) ru)
theorem Sz {mA:Str->Option Value}(r:∀ f,RelO (fs.lookup f) (mA f)):PySem.Within mA (fs.map (·.1)):=λg hg=>by
 cases q:fs.lookup g with
 |none=>exact absurd (RelO.none_of (by rw[<- q];exact r g)) hg
 |some v=>exact A09.mpr ⟨(g,v),A2G q,rfl⟩
theorem Vs {y:V}{u:Value}{Q:Unit->Shared->Prop}(I:Inv X pins σ H s)(e:H a=some (exO a C none))(c:XC X.K C)(n:C6 X.K C f)(ry:RelV y u)
  (h:∀ dx s',H dx=none->dx≠a->Inv X pins σ (upd (upd H dx (xdO dx [(f,y)])) a (exO a C (some dx))) s'->Q () s'):wpAny (model X.prog X.w) A (setAttr (.ref a) f u) Q E s:=by
 obtain⟨vs,sl,e1,e1n⟩:=exO_ok.mp (I.hok a _ e);refine a54 c I.kIn e1 n λh' hn he hk=>?_;have hf:H s.heap.objs.size=none:=I.hok.fresh (A0A _);have hne:s.heap.objs.size≠a:=A2Q (A07 e1);have na:∀ b,H b=none->b≠a:=λb q z=>by rw[z,e] at q;cases q
 have nd:∀ b u,H b=some u->b≠s.heap.objs.size:=λb u q z=>by rw[z,hf] at q;cases q
 have nb:∀ b o,s.heap.get? b=some o->b≠s.heap.objs.size:=λb o q=>A0O (A07 q);have hu:∀ b o,H b=some o->b≠a->upd (upd H s.heap.objs.size (xdO s.heap.objs.size [(f,y)])) a (exO a C (some s.heap.objs.size)) b=some o:=λb o q z=>by rw[Al z,Al (nd b o q)];exact q
 refine h _ _ hf hne (I.un ⟨λb o q z _ _=>hk b o (na b z) q,λb o q z _ _=>⟨o.slots,hk b o (na b z) q⟩,λb o q z _=>by rw[Al (na b z),Al (nb b o q)];exact z,λb o q _=>?_,
  λb xs q=>hu b _ q λz=>?_,λb o u q=>hu b _ q λz=>?_,λb ps q=>⟨#[],?_⟩⟩ λb o q=>?_)
 . by_cases z:b=a
   . subst z;exact⟨_,he⟩
   exact⟨o,hk b o z q⟩
 . rw[z,e] at q;cases q
 . rw[z,e] at q;cases q
 . rw[Array.append_empty];exact hu b _ q λz=>by rw[z,e] at q;cases q
 by_cases z:b=a
 . subst z;rw[Aa] at q;cases q;exact exO_ok.mpr ⟨_,_,he,e1n⟩
 rw[Al z] at q
 by_cases z2:b=s.heap.objs.size
 . subst z2;rw[Aa] at q;cases q;refine xdO_ok.mpr ⟨_,hn,λg=>?_⟩;show RelO (List.lookup g [(f,y)]) (if g=f then some u else none)
   by_cases q:g=f
   . have hb:(g==f)=true:=A1Z.mpr q;simp only[List.lookup,hb,if_pos q];exact ry
   have hb:(g==f)=false:=A0S.mpr q;simp only[List.lookup,hb,if_neg q];exact True.intro
 rw[Al z2] at q;refine(I.hok b o q).stay (λc v hc r=>hk c v (λz3=>?_) r) (λc r=>hu c _ r λz3=>?_) λc xs r=>hu c _ r λz3=>?_
 . subst z3;rcases hc with hc|hc
   . exact z hc.symm
   rw[e] at hc;cases hc
 . rw[z3,e] at r;cases r
 rw[z3,e] at r;cases r
theorem Wg {y:V}{u:Value}{Q:Unit->Shared->Prop}(I:Inv X pins σ H s)(e:H a=some (exO a C (some dx)))(ed:H dx=some (xdO dx fs))(c:XC X.K C)(n:C6 X.K C f)(hl:fs.length<1000)(ry:RelV y u)
  (h:∀ s',Inv X pins σ (upd H dx (xdO dx (Xz f y fs))) s'->Q () s'):wpAny (model X.prog X.w) A (setAttr (.ref a) f u) Q E s:=by
 obtain⟨vs,sl,e1,e1n⟩:=exO_ok.mp (I.hok a _ e);obtain⟨mA,hn,r⟩:=xdO_ok.mp (I.hok dx _ ed);refine Za c I.kIn e1 hn (Sz r) (by rw[A05,A11];omega) n λh' hn' hs=>h _ ?_;have hd:∃ o,h'.get? dx=some o:=let ⟨o,_,_,e',_⟩:=hn';⟨o,e'⟩;refine I.write (x:=dx) (e:=dx) (by rw[ed];exact A1U) (.inl rfl) (λb q hb z=>(hs.2 b hb).trans z) hd (xdO_ok.mpr ⟨_,hn',λg=>?_⟩);rw[J0]
 by_cases q:g=f
 . rw[A0Q q];show RelO (some y) (if g=f then some u else mA g)
   rw[A0Q q];exact ry
 rw[A0L q];show RelO _ (if g=f then some u else mA g)
 rw[A0L q];exact r g
end
def Zg (K:W.Frag)(f:Str):V->Hp->VK->Prop:=λx H1 Q=>∃ n a C dx fs v,x = .ref a/\H1 a=some (exG n a C (some dx))/\H1 dx=some (xdO dx fs)/\XC K C/\C6 K C f/\fs.lookup f=some v/\Q v H1
def Zz (K:W.Frag)(ta:TE)(f:Str):TE:=fun σ H Q=>ta σ H λx H1=>Zg K f x H1 Q
def ak1 (K:W.Frag)(f:Str)(y:V):V->Hp->(Hp->Prop)->Prop:=λx H2 R=>∃ a C,x = .ref a/\XC K C/\C6 K C f /\
 ((H2 a=some (exO a C none)/\∀ dx,H2 dx=none->dx≠a->R (upd (upd H2 dx (xdO dx [(f,y)])) a (exO a C (some dx)))) \/
   ∃ dx fs,H2 a=some (exO a C (some dx))/\H2 dx=some (xdO dx fs)/\fs.length<1000/\R (upd H2 dx (xdO dx (Xz f y fs))))
def a23 (K:W.Frag)(ta tv:TE)(f:Str):TS:=λD σ H=>tv σ H λy H1=>ta σ H1 λx H2=>ak1 K f y x H2 λH3=>D.nx σ H3
section
variable {X:Cx}{o e value:Expr}{f:Str}{pos pos' tpos:Pos}{ta tv:TE}
theorem a59 (he:PE X e ta)(hb:attributeBase e f X.env (eval e X.env)=eval e X.env):PE X (.Attribute e f pos) (Zz X.K ta f):=by intro pins s σ H Q I h;refine a63 hb (thn (he pins s σ H _ I h) λu s1 ⟨x,H1,I1,rx,n',a,C,dx,fs,v,ex,ea,ed,c,n,l,q⟩=>?_);subst ex;obtain rfl:u=Value.ref a:=rx;exact Zh I1 ea ed c n l λu' s2 I2 ru=>⟨v,H1,I2,ru,q⟩
theorem Z2 (ha:PE X o ta)(hv:PE X value tv)(hs:swapsWith value (some (.Attribute o f pos')) pos.line X.env=pure false):PS X (.Assign [.Attribute o f pos'] value pos) (a23 X.K ta tv f):=by
 intro pins s σ H D I h;refine plainObj_wpAny_Assign_Attribute (thn (hv pins s σ H _ I h) λu s1 ⟨y,H1,I1,ry,q⟩=>thn (ha pins s1 σ H1 _ I1 q) λov s2 ⟨x,H2,I2,rx,a,C,ex,c,n,q2⟩=>?_) hs;subst ex;obtain rfl:ov=Value.ref a:=rx;rcases q2 with ⟨ea,q2⟩|⟨dx,fs,ea,ed,l,q2⟩
 . exact Vs I2 ea c n ry λdx s3 h1 h2 I3=>⟨σ,_,I3,q2 dx h1 h2⟩
 exact Wg I2 ea ed c n l ry λs3 I3=>⟨σ,_,I3,q2⟩
end
def ExB (n:Bool)(H:Hp)(a C:Addr)(fs:List (Str×V)):Prop:=(fs=[]/\H a=some (exG n a C none))\/∃ dx,dx≠a/\H a=some (exG n a C (some dx))/\H dx=some (xdO dx fs)
abbrev ExA (H:Hp)(a C:Addr)(fs:List (Str×V)):Prop:=ExB true H a C fs
theorem ExB.inst {n:Bool}{P:Program}{w:World}{H:Hp}{h:Heap}{a C:Addr}{fs:List (Str×V)}(e:ExB n H a C fs)(x:HOk P w H h):∃ ox od,W.InstAt h a ox C od:=by
 rcases e with ⟨_,e⟩|⟨dx,_,e,d⟩
 . obtain⟨vs,sl,q,_⟩:=exG_ok.mp (x a _ e);exact⟨_,none,q,rfl,rfl,A1U⟩
 obtain⟨vs,sl,q,_⟩:=exG_ok.mp (x a _ e);obtain⟨mA,hn,_⟩:=xdO_ok.mp (x dx _ d);obtain⟨o,_,_,ho,_⟩:=hn;exact⟨_,some o,q,rfl,rfl,ho⟩
theorem ExB.same {n:Bool}{H H':Hp}{a C:Addr}{fs:List (Str×V)}(e:ExB n H a C fs)(s:∀ b o,H b=some o->H' b=some o):ExB n H' a C fs:=by
 rcases e with ⟨e1,e⟩|⟨dx,ne,e,d⟩
 . exact .inl ⟨e1,s _ _ e⟩
 exact .inr ⟨dx,ne,s _ _ e,s _ _ d⟩
def ak6 (K:W.Frag):List V->Hp->VK->Prop:=λxs H Q=>∃ n a C fs b,ExB n H a C fs/\XC K C /\
 ((∃ c,xs=[.ref a,.ref c]/\W.kitOne K (.ref C) (.ref c)=some b)\/(∃ c,xs=[.ref a,.ty c]/\W.kitOne K (.ref C) (.type c)=some b) \/
   ∃(p:Addr) (cs:List Addr),xs=[.ref a,.ref p]/\H p=some (.tup (cs.map V.ref))/\W.kitAny K (.ref C) (cs.map Value.ref)=some b)/\Q (.bl b) H
theorem Mo:∀ {cs:List Addr} {us:List Value},Vals (cs.map V.ref) us->us=cs.map Value.ref
 | [], us,r=>by cases us with | nil=>rfl | cons _ _=>cases r
 |c :: cs,us,r=>by
   cases us with
   |nil=>cases r
   |cons u us=>
     cases r with
     |cons r1 r2=>rw[A0I,Mo r2,show u=Value.ref c from r1]
theorem X0 {X:Cx}:CallR X (.builtin "isinstance") (ak6 X.K):=by
 intro pins s σ H xs us Q I r h;obtain⟨n,a,C,fs,b,ea,c,hc,q⟩:=h;obtain⟨ox,od,J⟩:=ea.inst I.hok;rcases hc with ⟨c',rfl,e⟩|⟨c',rfl,e⟩|⟨p,cs,rfl,hp,e⟩
 . obtain⟨u,w',rfl,r1,r2⟩:=Rc r
   cases r1;cases r2;exact A18 (U5 c) I.kIn J e (λz=>nomatch z) λtk=>⟨.bl _,H,I.tok _,rfl,q⟩
 . obtain⟨u,w',rfl,r1,r2⟩:=Rc r
   cases r1;cases r2;exact A18 (U5 c) I.kIn J e (λz=>nomatch z) λtk=>⟨.bl _,H,I.tok _,rfl,q⟩
 obtain⟨u,w',rfl,r1,r2⟩:=Rc r
 cases r1;cases r2;obtain⟨_,its,ri,ob,g1,g2,⟨n,g3⟩,g4⟩:=(show ObjOk X.prog X.w H s.heap p (.tup (cs.map V.ref)) from I.hok p _ hp);obtain rfl:=Mo ri;obtain⟨oc,odd,oda,osl⟩:=ob;dsimp only at g2 g3 g4;subst g2 g3 g4;exact W.kia_tup (U5 c) I.kIn J g1 e (λz=>nomatch z) λtk=>⟨.bl _,H,I.tok _,rfl,q⟩
theorem Dj {X:Cx}{K:W.Frag}(hK:X.K=K:=by ac_nf):CallR X (.builtin "isinstance") (ak6 K):=hK ▸ X0
def Mkx (P:Program)(w:World)(K:W.Frag)(mg:Str->Option Value)(base:Heap)(k:Nat)(C:Addr)(x:Str)(ps:List Str)(sp:Sp):Prop:=
 ∃ f fd,FnOk P w K mg base CX0 k f fd ps sp/\XC K C/\W.findIn K (.ref C) "__init__" = some (some (.ref f))/\W.isFn K (.ref f)=true/\W.keepIn K (.ref C)=true/\mg x=some (.ref C)/\Binds K fd ps []
def Vq (K:W.Frag)(C:Addr):Bool:=match K.lookup C with
 |some ⟨_,_,.cls cd,_⟩=>W.nsOkIn K cd.ns&&W.nsIn K cd.ns "__init__" == some none
 |_=>false
structure Mkx0 (K:W.Frag)(mg:Str->Option Value)(C:Addr)(x:Str):Prop where
 xc:XC K C
 no:Vq K C=true
 kp:W.keepIn K (.ref C)=true
 gl:mg x=some (.ref C)
def an0 (C:Addr)(sp:Sp)(vs:List V)(H1:Hp)(Q:VK):Prop:=vs.length<=8/\∀ x,H1 x=none->sp (.ref x :: vs) (upd H1 x (exO x C none)) (λv H2=>v = .non/\Q (.ref x) H2) E0
def aq8 (C:Addr)(sp:Sp)(t:TA):TE:=fun σ H Q=>t σ H λvs H1=>an0 C sp vs H1 Q
def ai9 (C:Addr)(vs:List V)(H1:Hp)(Q:VK):Prop:=vs.length<=8/\∀ x,H1 x=none->Q (.ref x) (upd H1 x (exO x C none))
def ao9 (C:Addr) (t:TA):TE:=fun σ H Q=>t σ H λvs H1=>ai9 C vs H1 Q
theorem Z8 {P:Program}{w:World}{H:Hp}{h:Heap}{a:Addr}(x:HOk P w H h)(n:h.get? a=none):H a=none:=by
 cases q:H a with
 |none=>rfl
 |some o=>
   have t:∀ o,ObjOk P w H h a o->∃ u,h.get? a=some u:=λo z=>by
    cases o with
    |lst xs=>obtain⟨_,_,_,_,e⟩:=z;exact⟨_,e⟩
    |tup xs=>obtain⟨_,_,_,_,e,_⟩:=z;exact⟨_,e⟩
    |dK kvs=>obtain⟨_,_,_,_,o,_,_,e,_⟩:=z;exact⟨_,e⟩
    |dT kvs=>obtain⟨_,_,_,_,o,_,_,e,_⟩:=z;exact⟨_,e⟩
    |set S n=>obtain⟨o,_,_,_,e,_⟩:=z;exact⟨_,e⟩
    |ins C dx fs=>obtain⟨_,_,_,e,_⟩:=z;exact⟨_,e⟩
    |own y=>obtain⟨_,e⟩:=z;exact⟨_,e⟩
    |xd fs=>obtain⟨_,⟨_,_,_,e,_⟩,_⟩:=z;exact⟨_,e⟩
    |rng lo hi=>obtain⟨_,_,_,e⟩:=z;exact⟨_,e⟩
    |frz ob u=>obtain⟨e,_⟩:=z;exact⟨_,e⟩
    |tbl ps=>exact⟨_,z⟩
    |met f y=>exact⟨_,z⟩
    |ext φ=>obtain⟨_,e,_⟩:=z;exact e
   obtain⟨u,e⟩:=t o (x a o q);rw[n] at e;cases e
section
variable {X:Cx}{k:Nat}{f C:Addr}{fd:FuncData}{ps:List Str}{sp:Sp}{x:Str}{p pos:Pos}{e:Expr}{es:List Expr}{t:TA}{pins:List (Addr×Obj)}{σ:St}{H:Hp}{s:Shared}{Q:VK}{us:List Value}{vs:List V}
theorem a37 (M:Mkx X.prog X.w X.K X.mg X.base k C x ps sp)(hr:Room (k+1) X.A)(I:Inv X pins σ H s)(r:Vals vs us)(hz:vs.length<=8)
  (h:∀ x,H x=none->sp (.ref x :: vs) (upd H x (exO x C none)) (λv H2=>v = .non/\Q (.ref x) H2) E0) :
  wpAny (model X.prog X.w) X.A (call (.ref C) us) (EP X pins σ Q) X.xe s:=by
 obtain⟨f,fd,F,c,hi,hf,hk,hm,hb⟩:=M;have hq:=h (s.heap.objs.size+1) (I.hok.fresh (A3C _));have r2:Vals (V.ref (s.heap.objs.size+1) :: vs) (Value.ref (s.heap.objs.size+1) :: us):=.cons rfl r
 have hl:((Value.ref (s.heap.objs.size+1) :: us)++[]).length=ps.length:=by have e:=r2.length;rw[F.len _ _ _ _ hq] at e;rw[A33];exact e.symm
 have hg1:((s.heap.push (a68 us)).push (Xr C s.heap.objs.size)).get? (s.heap.objs.size+1)=some (Xr C s.heap.objs.size):=by heap_get
 have I2:Inv X pins σ (upd H (s.heap.objs.size+1) (exO (s.heap.objs.size+1) C none)) {s with heap:=(s.heap.push (a68 us)).push (Xr C s.heap.objs.size)}:=
  I.laid (a:=s.heap.objs.size+1) (t':=s.toks) (λb u q=>A01 _ (A01 _ q)) (A3C _) (exO_ok.mpr ⟨_,_,hg1,λ_=>rfl⟩)
 obtain⟨hh,g,d,tk,os⟩:=s
 refine a03 I.kIn c.ex hi (A1Z.mp hf) (by rw[<- r.length,A11];omega) (A4L (A3F (F.run _ X.stack _ _ ⟨Value.ref (hh.objs.size+1) :: us,[]⟩ (Value.ref (hh.objs.size+1) :: us) _ _ E0 (hr.make C us [])
  (I2.env0.make C us []) (by have:=hb _ (Value.ref (hh.objs.size+1) :: us) I2.kIn hl;rw[A33] at this;exact this) r2 hq) λr s' hq'=>?_))
 cases r with
 |error e=>exact False.elim hq'
 |ok fl=>
   cases fl with
   |ret u=>obtain⟨v,H',I3,rv,ev,q3⟩:=I2.after hq';subst ev;exact⟨rv,⟨V.ref (hh.objs.size+1),H',I3,rfl,q3⟩⟩
   |next=>exact False.elim hq'
   |brk=>exact False.elim hq'
   |cont=>exact False.elim hq'
theorem T3 (M:Mkx X.prog X.w X.K X.mg X.base k C x ps sp)(hr:Room (k+1) X.A)(hg:Gl X x)(ha:PA X (e :: es) t)(hdb:(x==("__debug__":Str))=false:=by decide)
  (he:starEach (e :: es) X.env=(false,eval e X.env) :: starEach es X.env:=by ac_nf) (hpl:(backTo pos (starEach es X.env)).any (·.1)=false:=by ac_nf) :
  PE X (.Call (.Name x p) (e :: es) [] pos) (aq8 C sp t):=by
 intro pins s σ H Q I h;have M':=M;obtain⟨f,fd,F,c,hi,hf,hk,hm,hb⟩:=M';refine A2N (L3 I hg hm ?_ hdb);refine W.callWith_K (h₀:=X.base) I.ok.mod.kin hk (thn (ha pos pins s σ H _ I h) λus s1 ⟨vs,H1,I1,r,z,q⟩=>⟨I1.kIn,?_⟩) he hpl;exact a37 M hr I1 r z q
end
def spX (C:Addr)(fs:List Str):Sp:=λvs H Q _=>∃ a ws,vs = .ref a :: ws/\ws.length=fs.length/\H a=some (exO a C none) /\
 ∀ dx H',H dx=none->dx≠a->(∀ b,b≠a->b≠dx->H' b=H b)->H' a=some (exO a C (some dx))->H' dx=some (xdO dx (fs.zip ws))->Q .non H'
section
variable {X:Cx}{K:W.Frag}{o e value:Expr}{f:Str}{pos pos':Pos}{ta tv:TE}
theorem Q8 (he:PE X e ta)(hb:attributeBase e f X.env (eval e X.env)=eval e X.env)(hK:X.K=K:=by ac_nf):PE X (.Attribute e f pos) (Zz K ta f):=hK ▸ a59 he hb
theorem Qe (ha:PE X o ta)(hv:PE X value tv)(hs:swapsWith value (some (.Attribute o f pos')) pos.line X.env=pure false)(hK:X.K=K:=by ac_nf):PS X (.Assign [.Attribute o f pos'] value pos) (a23 K ta tv f):=
 hK ▸ Z2 ha hv hs
end
section
variable {K:W.Frag}{σ:St}{H:Hp}{Q:VK}{D:Ends}{f:Str}{ta tv:TE}{t:TA}{sp:Sp}{C a dx B G:Addr}{fs:List (Str×V)}{v y:V}{R:Hp->Prop}{vs:List V}
theorem a46 (k:ta σ H λx H1=>Zg K f x H1 Q):Zz K ta f σ H Q:=k
theorem Yg {n':Bool}(h:ExB n' H a C fs)(c:XC K C)(n:C6 K C f)(l:fs.lookup f=some v)(k:Q v H):Zg K f (.ref a) H Q:=by
 rcases h with ⟨rfl,_⟩|⟨dx,_,h1,h2⟩
 . cases l
 exact⟨n',a,C,dx,fs,v,rfl,h1,h2,c,n,l,k⟩
theorem Zn (k:tv σ H λy H1=>ta σ H1 λx H2=>ak1 K f y x H2 λH3=>D.nx σ H3):a23 K ta tv f D σ H:=k
theorem a90 (h:H a=some (exO a C none))(c:XC K C)(n:C6 K C f)(k:∀ dx H',H dx=none->dx≠a->(∀ b,b≠a->b≠dx->H' b=H b)->H' a=some (exO a C (some dx))->H' dx=some (xdO dx [(f,y)])->R H'):ak1 K f y (.ref a) H R:=
 ⟨a,C,rfl,c,n,.inl ⟨h,λdx h1 h2=>k dx _ h1 h2 (λb hb hd=>by rw[Al hb,Al hd]) Aa (by rw[Al h2,Aa])⟩⟩
theorem a95 (h:H a=some (exO a C (some dx)))(hd:H dx=some (xdO dx fs))(c:XC K C)(n:C6 K C f)(hl:fs.length<1000)(k:∀ H',(∀ b,b≠dx->H' b=H b)->H' dx=some (xdO dx (Xz f y fs))->R H'):ak1 K f y (.ref a) H R:=
 ⟨a,C,rfl,c,n,.inr ⟨dx,fs,h,hd,hl,k _ (λb hb=>Al hb) Aa⟩⟩
theorem ag3 (k:t σ H λvs H1=>an0 C sp vs H1 Q):aq8 C sp t σ H Q:=k
theorem Wm {gs:List Str}(hl:vs.length=gs.length)(hz:gs.length<=8)(k:∀ x H',H x=none->Same H H'->ExA H' x C (gs.zip vs)->Q (.ref x) H'):an0 C (spX C gs) vs H Q:=by refine⟨by omega,λx hx=>⟨x,vs,rfl,hl,Aa,λdx H' h1 h2 h3 h4 h5=>⟨rfl,k x H' hx (λb u q=>?_) (.inr ⟨dx,h2,h4,h5⟩)⟩⟩⟩;have b1:b≠x:=ne_of_none q hx;rw[Al h2] at h1;rw[h3 b b1 (ne_of_none q h1),Al b1];exact q
theorem a32 (k:t σ H λvs H1=>ai9 C vs H1 Q):ao9 C t σ H Q:=k
theorem Uw {n' b:Bool}(h:ExB n' H a C fs)(c:XC K C)(e:W.kitOne K (.ref C) (.ref G)=some b)(k:Q (.bl b) H):ak6 K [.ref a,.ref G] H Q:=⟨n',a,C,fs,b,h,c,.inl ⟨G,rfl,e⟩,k⟩
theorem ag0 {n' b:Bool}{T:String}(h:ExB n' H a C fs)(c:XC K C)(e:W.kitOne K (.ref C) (.type T)=some b)(k:Q (.bl b) H):ak6 K [.ref a,.ty T] H Q:=⟨n',a,C,fs,b,h,c,.inr (.inl ⟨T,rfl,e⟩),k⟩
end
theorem a08 {K:W.Frag}{C B:Addr}(hm:Gv K C B=true):W.kitOne K (.ref C) (.type "ValueError")=some true:=by obtain⟨cd,hc,hx⟩:=W.any_some hm;unfold W.kitOne;rw[A0L (by rw[A0S.mpr (by intro q;cases q)];decide)];unfold W.kitCls;dsimp only;rw[A0Q (by decide +kernel)];show W.mroIn K C _=_;unfold W.mroIn;rw[hc,A3I,A1Z.mp hx,A0L ∅,A1Q,A1Q,show xB.contains (Value.type "ValueError")=true by decide +kernel,A3R,A3R]
structure Lft (fs:List Addr)(a:Addr)(oe:Obj)(old:List Addr)(h h':Heap):Prop where
 keep:∀ b o,b∉fs->b≠a->b∉old->h.get? b=some o->h'.get? b=some o
 slot:∀ b o,b∈fs->h.get? b=some o->∃ sl,h'.get? b=some {o with slots:=sl}
 there:∀ b o,h.get? b=some o->∃ o',h'.get? b=some o'
 tr:∃ oe' vs T oT ts,h'.get? a=some oe'/\oe'.cls=oe.cls/\oe'.dict=oe.dict/\oe'.slots=oe.slots/\oe'.data = .fields vs/\vs[1]? = some (.ref T)/\T≠a/\h.get? T=none/\h'.get? T=some oT/\oT.data = .fields ts/\ts[3]? = some .none
section
variable {M:Model}{A:Around}{E:Value->Shared->Prop}{s:Shared}{base:Heap}{env:Env}{outer:List Env}{L a:Addr}{oe:Obj}{vs:Array Value}{Q:Unit->Shared->Prop}
theorem T6 (o:Obj)(g:Array Value->Array Value):(o.mapFields g).dict=o.dict/\(o.mapFields g).slots=o.slots/\(o.mapFields g).cls=o.cls:=by
 obtain⟨c,d,dt,sl⟩:=o
 cases dt<;>exact⟨rfl,rfl,rfl⟩
theorem Pg {head:Value}{hadNext:Bool}(hfr:A.frames=some (env :: outer))(hl:s.heap.FunFrames base (env :: outer))(hf:env.frame=some L)(he:s.heap.get? a=some oe)(hd:oe.data = .fields vs)(hsz:1<vs.size)
  (h:∀ h',Lft (frs (env :: outer)) a oe [] s.heap h'->Q () {s with heap:=h'}) :
  wpAny M A (do let x <- frameOf env;let pl <- entryPlaceOf L hadNext;let b <- EntryCells.newEntry head x .none (rawInt L) .none pl;setField (.ref a) 1 b) (λ_ s'=>wpAny M A (setFlight (.ref a) none) Q E s') E s:=by
 have ha:a∉frs (env :: outer):=λhm=>by obtain⟨_,o,ho,hnf⟩:=hl.mem hm;rw[he] at ho;cases ho;exact hnf vs hd
 refine A00 (wpAny_frameOf_fun hfr hl hf λh1 k1=>?_);refine A00 (wpAny_entryPlaceOf λpl hpl=>?_);unfold EntryCells.newEntry newFields;refine A00 (A20 ?_ (hpl.sizeOk5 _ _ _ _ _));generalize hob:(Obj.mk (Value.type "traceback") none (Data.fields ([head,Value.ref L,Value.none,rawInt L,Value.none]++(if pl.isEmpty then List.replicate 6 Value.none else pl)).toArray) #[]:Obj)=ob
 have obd:ob.data = .fields ([head,Value.ref L,Value.none,rawInt L,Value.none]++(if pl.isEmpty then List.replicate 6 Value.none else pl)).toArray:=by rw[<- hob]
 have hob2:ob.isFreed=false:=A2T obd;have he1:h1.get? a=some oe:=(k1.2.1 a ha).trans he;have he2:=A01 (h:=h1) ob he1;refine A4R he2 hd hsz ?_;have hTe:h1.objs.size≠a:=A2Q (A07 he1);have d3:=A37 hd (·.setIfInBounds 1 (Value.ref h1.objs.size));have he3:=A2S (Obj.mapFields (·.setIfInBounds 1 (Value.ref h1.objs.size))) he2 (A2T d3);have hT3:=(A1T (h1.push ob) (Obj.mapFields (·.setIfInBounds 1 (Value.ref h1.objs.size))) (Ne.symm hTe)).trans (A0E h1 hob2);unfold setFlight;refine wpAny_bind (wpAny_field he3 d3 (x:=.ref h1.objs.size) (by simp[hsz]) ?_);rw[if_pos (show(Value.ref h1.objs.size != Value.none)=true from by simp)];refine wpAny_setField hT3 obd (by simp only[List.size_toArray,List.length_append,List.length_cons,List.length_nil]<;>omega) (h _ ?_)
 have kp:∀ b o,b≠a->h1.get? b=some o->(((h1.push ob).update a (Obj.mapFields (·.setIfInBounds 1 (Value.ref h1.objs.size)))).update h1.objs.size (Obj.mapFields (·.setIfInBounds 3 ((none:Option Addr).elim Value.none λf=>rawInt f)))).get? b=some o:=λb o hbe hb=>by rw[A1T _ _ (A2Q (A07 hb)),A1T _ _ (Ne.symm hbe)];exact A01 _ hb
 have hea:=(A1T _ (Obj.mapFields (·.setIfInBounds 3 ((none:Option Addr).elim Value.none λf=>rawInt f))) hTe).trans he3;refine⟨λb o hb hba _ q=>kp b o hba ((k1.2.1 b hb).trans q),λb o hb q=>?_,λb o q=>?_,?_⟩
 . obtain⟨sl,z⟩:=k1.2.2 b o q;exact⟨sl,kp b _ (λw=>ha (w ▸ hb)) z⟩
 . by_cases w:b=a
   . subst w;exact⟨_,hea⟩
   obtain⟨sl,z⟩:=k1.2.2 b o q;exact⟨_,kp b _ w z⟩
 obtain⟨m1,m2,m3⟩:=T6 oe (·.setIfInBounds 1 (Value.ref h1.objs.size));refine⟨_,_,h1.objs.size,_,_,hea,m3,m1,m2,d3,by simp[hsz],hTe,Heap.get?_none_of_le (by rw[k1.1];exact Nat.le_refl _),Heap.get?_update_self _ hT3 (Obj.isFreed_of_fields (Obj.data_mapFields obd _)),Obj.data_mapFields obd _,?_⟩;rcases hpl with rfl|⟨_,_,_,_,_,_,_,rfl⟩<;>simp
theorem Vn (hfr:A.frames=some (env :: outer))(hl:s.heap.FunFrames base (env :: outer))(hf:env.frame=some L)(he:s.heap.get? a=some oe)(hd:oe.data = .fields vs)(h1:vs[1]? = some .none)
  (h:∀ h',Lft (frs (env :: outer)) a oe [] s.heap h'->Q () {s with heap:=h'}):wpAny M A (leaving env (.ref a)) Q E s:=by
 unfold leaving noteFrame;simp only[hf];refine A00 (A00 (A16 he hd h1 ?_));rw[A0L nofun];exact Pg hfr hl hf he hd (A23.mp h1).1 h
theorem W3 {T:Addr}{oT:Obj}{ts:Array Value}(hfr:A.frames=some (env :: outer))(hl:s.heap.FunFrames base (env :: outer))(hf:env.frame=some L)(he:s.heap.get? a=some oe)(hd:oe.data = .fields vs)(h1:vs[1]? = some (.ref T))
  (hTe:T≠a) (hT:s.heap.get? T=some oT) (hdT:oT.data = .fields ts) (h3:ts[3]? = some .none)
  (h:∀ h',Lft (frs (env :: outer)) a oe [T] s.heap h'->Q () {s with heap:=h'}):wpAny M A (noteFrame (.ref a) env) (λ_ s'=>wpAny M A (setFlight (.ref a) none) Q E s') E s:=by
 unfold noteFrame;simp only[hf];refine A00 (A16 he hd h1 ?_);rw[if_pos (show(Value.ref T != Value.none)=true from by simp)];refine A00 (A16 hT hdT h3 ?_);rw[if_neg (show ¬ ((Value.none==rawInt L)=true) from by simp[rawInt])];refine A00 (A4R hT hdT (A23.mp h3).1 ?_);have ot:∀ b,b≠T->(s.heap.update T (Obj.mapFields (·.setIfInBounds 3 Value.none))).get? b=s.heap.get? b:=λb hb=>A1T _ _ (Ne.symm hb);have tt:=A2S (Obj.mapFields (·.setIfInBounds 3 Value.none)) hT (A2T (A37 hdT _))
 have nT:∀ b o,s.heap.get? b=some o->(∀ us,o.data ≠ .fields us)->b≠T:=λb o hb hnf q=>by rw[q,hT] at hb;cases hb;exact hnf ts hdT
 have fT:T∉frs (env :: outer):=λhm=>by obtain⟨_,o,ho,hnf⟩:=hl.mem hm;exact nT T o ho hnf rfl
 refine Pg (hl:=hl.of_keeps λb o hb hnf=>⟨o,(ot b (nT b o hb hnf)).trans hb,rfl⟩) hfr hf ((ot a (Ne.symm hTe)).trans he) hd (A23.mp h1).1 λh' l=>h h' ?_;obtain⟨x1,x2,x3,oe',us,T',oT',ts',q1,q2,q3,q4,q5,q6,q7,q8,q9⟩:=l;refine⟨λb o hb hba hbt q=>x1 b o hb hba ∅ ((ot b λz=>hbt (by simp[z])).trans q),λb o hb q=>x2 b o hb ((ot b λz=>fT (z ▸ hb)).trans q),λb o q=>?_,oe',us,T',oT',ts',q1,q2,q3,q4,q5,q6,q7,?_,q9⟩
 . by_cases z:b=T
   . subst z;exact x3 _ _ tt
   exact x3 b o ((ot b z).trans q)
 by_cases z:T'=T
 . rw[z,tt] at q8;cases q8
 rw[<- ot T' z];exact q8
end
def Tra (a:Addr)(H':Hp)(h0 h:Heap):Prop:=∃ oe vs T oT ts,h.get? a=some oe/\oe.data = .fields vs/\vs[1]? = some (.ref T)/\T≠a/\h.get? T=some oT/\oT.data = .fields ts/\ts[3]? = some .none/\H' T=none/\h0.get? T=none
def CX1 (P:Program)(w:World):CXT:=λouter H s E e s'=>∃ a C od H',e = .ref a/\s'.os=s.os/\AllBare s'.gens/\Un (frs outer) [] H H' s.heap s'.heap/\HOk P w H' s'.heap/\H' a=some (exG false a C od)/\s.heap.get? a=none/\Tra a H' s.heap s'.heap/\E (.ref a) none H'
section
variable {P:Program}{w:World}{fs:List Addr}{a C:Addr}{od:Option Addr}{oe:Obj}{old:List Addr}{h h':Heap}{H:Hp}{n:Bool}
theorem Lft.hok (l:Lft fs a oe old h h')(ok:HOk P w H h)(he:h.get? a=some oe)(ha:H a=some (exG n a C od))(hfs:∀ b∈fs,H b=none)(hold:∀ b∈old,H b=none):HOk P w (upd H a (exG false a C od)) h':=λb u q=>by
 have hu:∀ c z,H c=some z->c≠a->upd H a (exG false a C od) c=some z:=λc z r ne=>by rw[Al ne];exact r
 by_cases hb:b=a
 . subst hb;rw[Aa] at q;cases q;obtain⟨vs,sl,e1,_⟩:=exG_ok.mp (ok b _ ha);rw[he] at e1;cases e1;obtain⟨oe',us,T,oT,ts,q1,q2,q3,q4,q5,_⟩:=l.tr;obtain⟨c,d,dt,s4⟩:=oe';dsimp only at q2 q3 q4 q5;subst q2 q3 q4 q5;exact exG_ok.mpr ⟨us,_,q1,λz=>Bool.noConfusion z⟩
 rw[Al hb] at q;refine(ok b u q).stay (λc v hc r=>?_) (λc r=>hu c _ r λz=>?_) λc xs r=>hu c _ r λz=>?_
 . have hcn:∃ z,H c=some z:=by
    rcases hc with hc|hc
    . exact⟨u,hc ▸ q⟩
    exact⟨_,hc⟩
   obtain⟨z,hz⟩:=hcn;refine l.keep c v (λm=>by rw[hfs c m] at hz;cases hz) (λe=>?_) (λm=>by rw[hold c m] at hz;cases hz) r;subst e;rcases hc with hc|hc
   . exact hb hc.symm
   rw[ha] at hc;cases hc
 . rw[z,ha] at r;cases r
 rw[z,ha] at r;cases r
end
section
variable {P:Program}{w:World}{K:W.Frag}{mg:Str->Option Value}{base:Heap}{N:List Str}{qual:Str}{scope:Scope}{f:Addr}{cd:Value}{A:Around}{outer:List Env}{s₀:Shared}{H₀:Hp}{E:XK}
theorem Xk {h h':Heap}:∀ {l:List Env},h.FunFrames base l->(∀ b∈frs l,∀ o,h.get? b=some o->∃ sl,h'.get? b=some {o with slots:=sl})->h'.FunFrames base l
 | [],_,_=>A1U
 |env :: r,hl,k=>by
   obtain⟨hk,⟨L,o,hf,hn,ho,hd⟩,hr⟩:=hl;have e:frs (env :: r)=L :: frs r:=by unfold frs;rw[List.filterMap_cons,hf]
   obtain⟨sl,z⟩:=k L (by rw[e];exact A0J) o ho;exact⟨hk,⟨L,_,hf,hn,z,hd⟩,Xk hr λb hb=>k b (by rw[e];exact A0C _ hb)⟩
theorem ap9 {CX:CXT}{pins:List (Addr×Obj)}{σ:St}{H1 H2:Hp}{s1 s2:Shared}{h3:Heap}{a C:Addr}{od:Option Addr}{oe:Obj}{old:List Addr}{n:Bool}(I:Inv (V9 CX P w K mg base N qual scope f cd A outer s₀ H₀ E) pins σ H1 s1)
  (os:s2.os=s1.os) (bare:AllBare s2.gens) (un:Un (frs (envOfC qual scope s₀.heap.objs.size f cd :: outer)) [] H1 H2 s1.heap s2.heap) (ok:HOk P w H2 s2.heap) (ha:H2 a=some (exG n a C od)) (he:s2.heap.get? a=some oe) (hn:s₀.heap.get? a=none) (hold:∀ b∈old,H2 b=none/\s₀.heap.get? b=none)
  (l:Lft (frs (envOfC qual scope s₀.heap.objs.size f cd :: outer)) a oe old s2.heap h3) (q:E (.ref a) none (upd H2 a (exG false a C od))) :
  CX1 P w outer H₀ s₀ E (.ref a) {s2 with heap:=h3}:=by
 have stk:∀ b∈frs (envOfC qual scope s₀.heap.objs.size f cd :: outer),b=s₀.heap.objs.size\/b∈frs outer:=λb hb=>by
  rcases A0D.mp (I.stkSub b hb) with z|z
  . exact .inl z
  exact .inr z
 have fr2:∀ b∈frs (envOfC qual scope s₀.heap.objs.size f cd :: outer),H2 b=none:=λb hb=>by obtain⟨_,o,ho,_⟩:=I.stack.mem hb;exact un.free b o ho (I.stkFree b hb) ∅
 obtain⟨oe',us,T,oT,ts,q1,q2,q3,q4,q5,q6,q7,q8,q9,q10,q11⟩:=l.tr;have nl:∀ b o,s₀.heap.get? b=some o->b≠s₀.heap.objs.size:=λb o z=>A0O (A07 z);have na:∀ b o,s₀.heap.get? b=some o->b≠a:=λb o z e=>by rw[e,hn] at z;cases z
 have no:∀ b o,s₀.heap.get? b=some o->b∉old:=λb o z e=>by rw[(hold b e).2] at z;cases z
 have tn:H2 T=none:=Z8 ok q8
 have t0:s₀.heap.get? T=none:=by
  cases z:s₀.heap.get? T with
  |none=>rfl
  |some o=>obtain⟨o1,z1⟩:=I.base.there T o z (by intro m;cases m);obtain⟨o2,z2⟩:=un.there T o1 z1 ∅;rw[q8] at z2;cases z2
 have hu:∀ c z,H2 c=some z->z≠exG n a C od->upd H2 a (exG false a C od) c=some z:=λc z r ne=>by rw[Al λe=>ne (by rw[e,ha] at r;exact(A0X r).symm)];exact r
 refine⟨a,C,od,upd H2 a (exG false a C od),rfl,os.trans I.os,bare,⟨λb o z nz hb _=>?_,λb o z nz hb _=>?_,λb o z nz _=>?_,λb o z _=>?_,λb xs z=>?_,λb o u z=>?_,λb ps z=>?_⟩,l.hok ok he ha fr2 (λb m=>(hold b m).1),Aa,hn,⟨oe',us,T,oT,ts,q1,q5,q6,q7,q9,q10,q11,by rw[Al q7];exact tn,t0⟩,q⟩
 . have z1:=I.base.keep b o z nz hb (by intro m;cases m);have n1:=I.base.free b o z nz (by intro m;cases m);have hb2:b∉frs (envOfC qual scope s₀.heap.objs.size f cd :: outer):=λm=>(stk b m).elim (nl b o z) hb;exact l.keep b o hb2 (na b o z) (no b o z) (un.keep b o z1 n1 hb2 ∅)
 . obtain⟨sl,z1⟩:=I.base.slot b o z nz hb (by intro m;cases m);have n1:=I.base.free b o z nz (by intro m;cases m);obtain⟨sl2,z2⟩:=un.any z1 n1 ∅
   by_cases m:b∈frs (envOfC qual scope s₀.heap.objs.size f cd :: outer)
   . obtain⟨sl3,z3⟩:=l.slot b _ m z2;exact⟨sl3,z3⟩
   exact⟨sl2,l.keep b _ m (na b o z) (no b o z) z2⟩
 . obtain⟨o1,z1⟩:=I.base.there b o z (by intro m;cases m);have n1:=I.base.free b o z nz (by intro m;cases m);show upd H2 a _ b=none;rw[Al (na b o z)];exact un.free b o1 z1 n1 ∅
 . obtain⟨o1,z1⟩:=I.base.there b o z (by intro m;cases m);obtain⟨o2,z2⟩:=un.there b o1 z1 ∅;exact l.there b o2 z2
 . exact hu b _ (un.tups b xs (I.base.tups b xs z)) (λe=>nomatch e)
 . exact hu b _ (un.frzs b o u (I.base.frzs b o u z)) (λe=>nomatch e)
 obtain⟨m1,z1⟩:=I.base.tbls b ps z;obtain⟨m2,z2⟩:=un.tbls b _ z1;exact⟨m1++m2,by rw[<- A4X];exact hu b _ z2 (λe=>nomatch e)⟩
theorem X8 {H:Hp}{a:Addr}{o:HO}(h:H a=some o):upd H a o=H:=by
 funext b;unfold upd
 split
 . rename_i e;rw[e,h]
 rfl
def Te (K:W.Frag)(H0:Hp)(E:XK)(x:V)(H1:Hp):Prop:=∃ a C od,x = .ref a/\H1 a=some (exO a C od)/\XC K C/\H0 a=none/\E (.ref a) none (upd H1 a (exG false a C od))
def Y8 (K:W.Frag)(H0:Hp)(E:XK)(t:TE):TS:=λD σ H=>t σ H λx H1=>Te K H0 E x H1
theorem Lr {ex:Expr}{t:TE}{pos:Pos}{X:Cx}(hX:X=V9 (CX1 P w) P w K mg base N qual scope f cd A outer s₀ H₀ E)(he:PE X ex t):PS X (.Raise (some ex) none pos) (Y8 K H₀ E t):=by
 subst hX;intro pins s σ H D I h;rw[arm_exec_Raise];refine A00 (A4Z ?_);unfold raiseStmt;simp only[evalOpt,Option.map];refine A00 (A00 (thn (he pins s σ H _ I h) λv s1 ⟨x,H1,I1,rx,a,C,od,ex',ha,hc,h0,q⟩=>A00 (A4Z (A04 ?_))));subst ex';obtain rfl:v=Value.ref a:=rx;obtain⟨vs,sl,hx,hv⟩:=exO_ok.mp (I1.hok a _ ha);have hv:=hv rfl;obtain⟨nm,qn,N',bs,bm,sn,sub,ab,col,dd,k0,k1,k2,k3,k5,hl,htl⟩:=Hq hc.ex;have hC:=I1.kIn _ _ hl;have hcB:(Value.ref C :: bm).contains (.type "BaseException")=true:=by rw[A1Q,Xj (A39 I1.kIn htl),A3R]
 have fin:(V9 (CX1 P w) P w K mg base N qual scope f cd A outer s₀ H₀ E).xe (.ref a) s1:=by
  refine Vn (base:=base) (L:=s₀.heap.objs.size) I1.ok.frames I1.stack rfl hx rfl hv λh3 l=>?_
  have hn0:s₀.heap.get? a=none:=by
   cases z:s₀.heap.get? a with
   |none=>rfl
   |some o=>have:=I1.base.free a o z h0 (by intro m;cases m);rw[ha] at this;cases this
  exact ap9 I1 rfl I1.bare Un.refl I1.hok ha hx hn0 ∅ l q
 obtain⟨hh,g,d,tk,os⟩:=s1
 repeat (first | (with_reducible refine A2B hx ?_) | (with_reducible refine A2B hC ?_) | (with_reducible refine A4T hC ?_;rw[hcB]) | (with_reducible refine A16 hx rfl hv ?_) | wp_step)
 exact wpAny_raiseNew_none (I1.ok.hd rfl) fin
end
section
variable {X:Cx}{pins:List (Addr×Obj)}{σ:St}{H:Hp}{s:Shared}
theorem Kz {M:Model}{A:Around}{E:Value->Shared->Prop}{i:Nat}{x:Str}{pos:Pos}{Q:Unit->Shared->Prop}(I:Inv X pins σ H s)(hN:X.N.Nodup)(hi:X.N[i]? = some x)(hk:X.env.scope.names.lookup x=some .local)
  (h:∀ s',Inv X pins (σ.set i none) H s'->Q () s'):wpAny M A (do bindName X.env x .none;unbindBehindTheSuite X.env x pos) Q E s:=by
 refine A00 (wpAny_bindName (Ie (v:=.non) (u:=.none) I hN hi (.inl hk) rfl (λs1 I1=>?_) (.inr hk)));unfold unbindBehindTheSuite;refine A3L ?_;obtain⟨m,hn,hl⟩:=id I1.loc;have hcls:(X.env.scope.kind == .class||(X.env.scope.kind == .module&&X.env.locals != X.env.globals))=false:=by rw[I1.ok.kind];rfl
 have hiσ:i<σ.length:=by rw[I.len];exact(A02.mp hi).1
 obtain⟨u,ru,lu⟩:=hl i x .non hi (A2M hiσ) (.inl hk)
 have hmx:m x=some u:=by
  rcases lu with ⟨_,z⟩|⟨z,_⟩
  . exact z
  have z':X.env.scope.names.lookup x=some .cell\/X.env.scope.names.lookup x=some .free:=z;rw[hk] at z';rcases z' with z'|z'<;>cases z'
 refine wpAny_unbindName_local hk hn hmx hcls λh' w hn' hs=>h _ ?_;obtain⟨oL,_,_,hoL,_⟩:=id hn;have cne:=I1.cne;refine⟨I1.ok,I1.os,I1.bare,⟨λb o e n hb hx=>?_,λb o e n hb hx=>?_,I1.base.free,λb o e hx=>?_,I1.base.tups,I1.base.frzs,I1.base.tbls⟩,⟨_,hn',λj y v' e1 e2 e3=>?_⟩,λy c e=>?_,I1.free,I1.freeC,λp hp=>?_,λb ob e=>?_,by simpa using I.len⟩
 . exact(hs.2 b (A0O (A0V (A07 e) I1.ok.above))).trans (I1.base.keep b o e n hb hx)
 . obtain⟨sl,e1⟩:=I1.base.slot b o e n hb hx;exact⟨sl,(hs.2 b (A0O (A0V (A07 e) I1.ok.above))).trans e1⟩
 . obtain⟨o',e1⟩:=I1.base.there b o e hx;exact⟨o',(hs.2 b (A0O (A0V (A07 e) I1.ok.above))).trans e1⟩
 . by_cases hj:j=i
   . subst hj;rw[A2M hiσ] at e2
     cases e2
   rw[A1R (Ne.symm hj)] at e2;obtain⟨u',r',q⟩:=hl j y v' e1 (by rw[A1R (Ne.symm hj)];exact e2) e3;refine⟨u',r',?_⟩;rcases q with ⟨k,e⟩|⟨k,c,e,z⟩
   . refine .inl ⟨k,?_⟩;have ne:y≠x:=λe=>hj (Lk hN e1 (e ▸ hi));simp[ne,e]
   exact .inr ⟨k,c,e,z.sameBut hs (cne y c e)⟩
 . obtain⟨w',z⟩:=I1.cell y c e;exact⟨w',z.sameBut hs (cne y c e)⟩
 . obtain⟨e,n,ne,nf,d⟩:=I1.pin p hp;exact⟨(hs.2 p.1 ne).trans e,n,ne,nf,d⟩
 refine(I1.hok b ob e).stay (λc w' hc q=>(hs.2 c ?_).trans q) (λ_ q=>q) λ_ _ q=>q;rintro rfl;rcases hc with hc|hc
 . rw[<- hc] at e;rw[I1.free] at e;cases e
 rw[I1.free] at hc;cases hc
abbrev Cx.tri (X:Cx)(pins:List (Addr×Obj))(E:Value->Shared->Prop):Cx:={X with xe:=E,pn:=X.pn++pins}
abbrev Cx.hnd (X:Cx)(a:Addr)(E:Value->Shared->Prop):Cx:={X with A:=X.A.mark (some (.ref a)),calm:=false,xe:=E}
theorem Inv.tri (I:Inv X pins σ H s)(E:Value->Shared->Prop):Inv (X.tri pins E) [] σ H s:=
 ⟨⟨I.ok.mod,I.ok.kind,I.ok.glob,I.ok.blt,I.ok.above,I.ok.inj,I.ok.has,I.ok.cab,I.ok.hd,I.ok.frames,I.ok.stk,I.ok.exf,I.ok.bs,I.ok.bsz,I.ok.noex,I.ok.exfs,I.ok.funs,I.ok.frf⟩,I.os,I.bare,I.base,I.loc,I.cell,I.free,I.freeC,λp hp=>I.pin p (by simpa using hp),I.hok,I.len⟩
theorem Inv.untri {E:Value->Shared->Prop}{more:List (Addr×Obj)}(I:Inv (X.tri pins E) more σ H s):Inv X pins σ H s:=
 ⟨⟨I.ok.mod,I.ok.kind,I.ok.glob,I.ok.blt,I.ok.above,I.ok.inj,I.ok.has,I.ok.cab,I.ok.hd,I.ok.frames,I.ok.stk,I.ok.exf,I.ok.bs,I.ok.bsz,I.ok.noex,I.ok.exfs,I.ok.funs,I.ok.frf⟩,I.os,I.bare,I.base,I.loc,I.cell,I.free,I.freeC,λp hp=>I.pin p (A0M _ hp),I.hok,I.len⟩
theorem Inv.hnd (I:Inv X pins σ H s)(a:Addr)(E:Value->Shared->Prop):Inv (X.hnd a E) pins σ H s:=
 ⟨⟨I.ok.mod,I.ok.kind,I.ok.glob,I.ok.blt,I.ok.above,I.ok.inj,I.ok.has,I.ok.cab,λz=>Bool.noConfusion z,I.ok.frames,I.ok.stk,I.ok.exf,I.ok.bs,I.ok.bsz,I.ok.noex,I.ok.exfs,I.ok.funs,I.ok.frf⟩,I.os,I.bare,I.base,I.loc,I.cell,I.free,I.freeC,I.pin,I.hok,I.len⟩
theorem Inv.unhnd {a:Addr}{E:Value->Shared->Prop}(hd:X.calm=true->X.A.handled=none)(I:Inv (X.hnd a E) pins σ H s):Inv X pins σ H s:=
 ⟨⟨I.ok.mod,I.ok.kind,I.ok.glob,I.ok.blt,I.ok.above,I.ok.inj,I.ok.has,I.ok.cab,hd,I.ok.frames,I.ok.stk,I.ok.exf,I.ok.bs,I.ok.bsz,I.ok.noex,I.ok.exfs,I.ok.funs,I.ok.frf⟩,I.os,I.bare,I.base,I.loc,I.cell,I.free,I.freeC,I.pin,I.hok,I.len⟩
end
section
variable {M:Model}{A:Around}{E:Value->Shared->Prop}{s:Shared}{K:W.Frag}{C B a:Addr}{oe:Obj}{Q:Bool->Shared->Prop}
theorem X7 (X:K.In s.heap)(c:XC K C)(b:XC K B)(hm:W.mroIn K C (.ref B)=some true)(he:s.heap.get? a=some oe)(hc:oe.cls = .ref C)(hq:Q true s):wpAny M A (excMatches (.ref a) (.ref B)) Q E s:=by
 obtain⟨nm,qn,N,bs,bm,sn,sub,ab,col,dd,k0,k1,k2,k3,k5,hl,htl⟩:=Hq b.ex;have hB:=X _ _ hl;have hcB:(Value.ref B :: bm).contains (.type "BaseException")=true:=by rw[A1Q,Xj (A39 X htl),A3R]
 have f:=tc_notTuple;have l1:W.Looks M s.heap (isSubtype (.ref C) (.ref B)) true:=A4U X hm;obtain⟨h,g,d,t,os⟩:=s;unfold excMatches
 repeat (first | (with_reducible refine A2B he ?_;rw[hc]) | (with_reducible refine A2B hB ?_) | (with_reducible refine A4T hB ?_;rw[hcB]) | (with_reducible refine l1.at ?_) | wp_step)
 exact hq
end
def tryE (G:Addr->Hp->Prop):XK:=λv _ H'=>∃ a,v = .ref a/\G a H'
def sTry (K:W.Frag)(len i:Nat)(B:Addr)(G:Addr->Hp->Prop)(tb th:TS):TS:=λD σ H=>tb D σ H/\∀(a:Addr) (H':Hp) (σ':St),σ'.length=len->G a H' ->
 (∃ C od,H' a=some (exG false a C od)/\XC K C/\W.mroIn K C (.ref B)=some true) /\
  th {nx:=fun σ2 H2=>D.nx (σ2.set i none) H2,rt:=D.rt,bk:=fun σ2 H2=>D.bk (σ2.set i none) H2,ct:=fun σ2 H2=>D.ct (σ2.set i none) H2} (σ'.set i (some (.ref a))) H'
section
variable {X:Cx}{pins:List (Addr×Obj)}
theorem SP.untri {E:Value->Shared->Prop}{D:Ends}{f:Flow}{s':Shared}(h:SP (X.tri pins E) [] D f s'):SP X pins D f s':=by
 cases f with
 |next=>obtain⟨σ',H',I,q⟩:=h;exact⟨σ',H',I.untri,q⟩
 |brk=>obtain⟨σ',H',I,q⟩:=h;exact⟨σ',H',I.untri,q⟩
 |cont=>obtain⟨σ',H',I,q⟩:=h;exact⟨σ',H',I.untri,q⟩
 |ret u=>obtain⟨v,σ',H',I,r,q⟩:=h;exact⟨v,σ',H',I.untri,r,q⟩
theorem Yz {ts:Array Value}(h:ts[3]? = some .none):ts.setIfInBounds 3 .none=ts:=by
 obtain⟨h1,h2⟩:=A23.mp h;refine Array.ext ∅ λj j1 j2=>?_;rw[Array.getElem_setIfInBounds]
 split
 . rename_i e;subst e;exact h2.symm
 rfl
theorem ae3 {body suite:List Stmt}{b0:Stmt}{tb th:TS}{n bx:Str}{i:Nat}{B:Addr}{p1 p2 pos:Pos}(G:Addr->Hp->Prop)(hN:X.N.Nodup)(hi:X.N[i]? = some n)(hk:X.env.scope.names.lookup n=some .local)(hg:Gl X bx)(hm:X.mg bx=some (.ref B))(hB:XC X.K B)
  (hst:X.stack=X.env :: X.outer) (hf:X.env.frame=some X.env.locals) (hex:X.ex=[])
  (hb:∀ ps xe,Nj (CX1 X.prog X.w) (X.tri ps xe) (tryE G)->PSs (X.tri ps xe) body tb) (hs:∀ a xe,PSs (X.hnd a xe) (b0 :: suite) th) (hd:(bx==("__debug__":Str))=false:=by decide) :
  PS X (.Try body [.ExceptHandler (some (.Name bx p1)) (some n) (b0 :: suite) p2] [] [] pos) (sTry X.K X.N.length i B G tb th):=by
 intro pins s σ H D I h;refine wpAny_Try_except ?_;refine A1X (hb pins _ ?_ [] s σ H D (I.tri _) h.1) (λf s1 hs1=>?_) λe s1 he=>he
 . intro pins2 σ2 H2 s2 e s3 I2 hq;obtain⟨a,C',od',H3,rfl,os,bare,un,ok,ha',hn,⟨oe,vs,T,oT,ts,t1,t2,t3,t4,t5,t6,t7,t8,t9⟩,a',ea,q⟩:=hq
   cases ea;have J2:Inv X pins σ2 H2 s2:=I2.untri;obtain⟨⟨C,od,ha,hc,hmro⟩,q3⟩:=h.2 a H3 σ2 (by rw[J2.len]) q;have un':Un (frs X.stack) [] H2 H3 s2.heap s3.heap:=un
   have fun3:s3.heap.FunFrames X.base (X.env :: X.outer):=by have:=Xk (h':=s3.heap) J2.stack λb hb o ho=>un'.any ho (J2.stkFree b hb) ∅;rwa[hst] at this
   have fr3:∀ b∈frs X.stack,H3 b=none:=λb hb=>by obtain⟨_,o,ho,_⟩:=J2.stack.mem hb;exact un'.free b o ho (J2.stkFree b hb) ∅
   refine W3 (base:=X.base) (L:=X.env.locals) (by have:=J2.ok.frames;rwa[hst] at this) fun3 hf t1 t2 t3 t4 t5 t6 t7 λh4 l=>?_;rw[<- hst] at l
   have ok4:HOk X.prog X.w H3 h4:=by have:=l.hok ok t1 ha fr3 (λb hb=>by simp at hb;subst hb;exact t8);rwa[X8 ha] at this
   have un4:Un (frs X.stack) [] H2 H3 s2.heap h4:=by
    have na:∀ b o,s2.heap.get? b=some o->b≠a:=λb o z e=>by rw[e,hn] at z;cases z
    have nT:∀ b o,s2.heap.get? b=some o->b∉[T]:=λb o z e=>by simp at e;rw[e,t9] at z;cases z
    refine⟨λb o z nz hb hx=>l.keep b o hb (na b o z) (nT b o z) (un'.keep b o z nz hb hx),λb o z nz hb hx=>?_,un'.free,λb o z hx=>?_,un'.tups,un'.frzs,un'.tbls⟩
    . obtain⟨sl,z1⟩:=un'.slot b o z nz hb hx;obtain⟨sl2,z2⟩:=l.slot b _ hb z1;exact⟨sl2,z2⟩
    obtain⟨o1,z1⟩:=un'.there b o z hx;exact l.there b o1 z1
   have I4:Inv X pins σ2 H3 {s3 with heap:=h4}:=J2.call' (s':={s3 with heap:=h4}) (ch:=[]) os un4 ok4 bare (λb z=>absurd z ∅)
   obtain⟨us,sl4,he4,_⟩:=exG_ok.mp (ok4 a _ ha);obtain⟨oe',vs',T',oT',ts',q1,q2,q3',q4,q5,q6,q7,q8,q9,q10,q11⟩:=l.tr;have hd4:X.calm=true->X.A.handled=none:=I.ok.hd;refine wpAny_handleBy_cons (codeAny_handlers_test ?_) (by intro q;cases q);refine L3 (X:=X.hnd a λ_ _=>False) (I4.hnd a _) hg hm ?_ hd;refine X7 (s:={s3 with heap:=h4}) I4.kIn hc hB hmro he4 rfl ?_
   refine codeAny_handlers_suite_as ?_;have hz:3<ts'.size:=(A23.mp q11).1;refine wpAny_setFlight_none q1 q5 q6 q9 q10 hz ?_
   have same:∀ b u,h4.get? b=some u->(h4.update T' (Obj.mapFields (·.setIfInBounds 3 .none))).get? b=some u:=λb u z=>by
    by_cases e:b=T'
    . subst e;rw[q9] at z;cases z;rw[A2S _ q9 (A2T (A37 q10 _))];obtain⟨c1,d1,dt1,s1'⟩:=oT';dsimp only at q10;subst q10;refine congrArg some ?_;show Obj.mk c1 d1 (Data.fields (ts'.setIfInBounds 3 .none)) s1'=_;rw[Yz q11]
    rw[A1T _ _ (Ne.symm e)];exact z
   have I5:Inv X pins σ2 H3 {s3 with heap:=h4.update T' (Obj.mapFields (·.setIfInBounds 3 .none))}:=I4.kept (t':=s3.toks) same
   refine Ie (X:=X) (v:=.ref a) I5 hN hi (.inl hk) rfl (λs6 I6=>?_) (.inr hk);refine thn (hs a _ pins s6 _ H3 _ (I6.hnd a _) q3) λf s7 h7=>?_
   cases f with
   |next=>obtain⟨σ7,H7,I7,q7'⟩:=h7;exact Kz (I7.unhnd hd4) hN hi hk λs8 I8=>⟨_,_,I8,q7'⟩
   |brk=>obtain⟨σ7,H7,I7,q7'⟩:=h7;exact Kz (I7.unhnd hd4) hN hi hk λs8 I8=>⟨_,_,I8,q7'⟩
   |cont=>obtain⟨σ7,H7,I7,q7'⟩:=h7;exact Kz (I7.unhnd hd4) hN hi hk λs8 I8=>⟨_,_,I8,q7'⟩
   |ret u=>obtain⟨v,σ7,H7,I7,r7,q7'⟩:=h7;exact Kz (I7.unhnd hd4) hN hi hk λs8 I8=>⟨v,_,_,I8,r7,q7'⟩
 have hs1:=hs1.untri
 cases f with
 |next=>exact A04 hs1
 |brk=>exact hs1
 |cont=>exact hs1
 |ret u=>exact hs1
end
def ak3 (P:Program)(w:World)(K:W.Frag)(mg:Str->Option Value)(base:Heap)(k:Nat)(x:Str)(ps:List Str)(sp:Sp):Prop:=
 ∃ f fd,FnOk P w K mg base (CX1 P w) k f fd ps sp/\mg x=some (.ref f)/\W.keepIn K (.ref f)=true/\Binds K fd ps []
section
variable {X:Cx}{k:Nat}{x:Str}{ps:List Str}{sp:Sp}{e:Expr}{es:List Expr}{t:TA}{p pos:Pos}{E:XK}
theorem a80 (F:ak3 X.prog X.w X.K X.mg X.base k x ps sp)(hr:Room k X.A)(hg:Gl X x)(hx:Nj (CX1 X.prog X.w) X E)(ha:PA X (e :: es) t)(hdb:(x==("__debug__":Str))=false:=by decide)
  (he:starEach (e :: es) X.env=(false,eval e X.env) :: starEach es X.env:=by ac_nf) (hpl:(backTo pos (starEach es X.env)).any (·.1)=false:=by ac_nf):PE X (.Call (.Name x p) (e :: es) [] pos) (W4 sp [] E t):=by
 obtain⟨f,fd,h1,h2,h3,h4⟩:=F;exact Tt h1 hr hg h2 h3 h4 .nil hx ha hdb he hpl
end
section
variable {P:Program}{w:World}{K:W.Frag}{mg:Str->Option Value}{base:Heap}
theorem Fun.ok1 {x qual:Str}{st:Stmt}{f:Addr}{fd:FuncData}{N ps:List Str}{k:Nat}{sp:Sp}(F:Fun K x qual st f fd)(S:Ai N ps (A9 st))(len:∀ vs H Q E,sp vs H Q E->vs.length=ps.length)
  (hbody:∀(cdv:Value) (A:Around) (outer:List Env) (s:Shared) (H:Hp) (vs:List V) (Q:VK) (E:XK),Room k (A.deeper (envOfC qual (A9 st) s.heap.objs.size f cdv))->sp vs H Q E ->
   ∃ t,PSs (V9 (CX1 P w) P w K mg base N qual (A9 st) f cdv A outer s H E) (Bc st) t/\t {nx:=λ_ H'=>Q .non H',rt:=Q} (L5 N vs) H):FnOk P w K mg base (CX1 P w) (k+1) f fd ps sp:=by
 obtain⟨oc,od,kV,doc,pm,an,cdv,ct,osl,rfl,lk,hcd⟩:=F.ex;exact a84 lk hcd S len λA outer s H vs Q E hr hsp=>hbody cdv A outer s H vs Q E hr hsp
end
section
variable {K:W.Frag}{σ:St}{H H0:Hp}{D:Ends}{t:TE}{C a:Addr}{fs:List (Str×V)}{E:XK}
theorem i_sRaise (k:t σ H λx H1=>Te K H0 E x H1):Y8 K H0 E t D σ H:=k
theorem Lv (h:ExA H a C fs)(c:XC K C)(h0:H0 a=none)(k:∀ H2,(∀ b o,b≠a->H b=some o->H2 b=some o)->ExB false H2 a C fs->E (.ref a) none H2):Te K H0 E (.ref a) H:=by
 have kp:∀ od b o,b≠a->H b=some o->upd H a (exG false a C od) b=some o:=λod b o hb q=>by rw[Al hb];exact q
 rcases h with ⟨e1,h⟩|⟨dx,ne,h,g⟩
 . exact⟨a,C,none,rfl,h,c,h0,k _ (kp _) (.inl ⟨e1,Aa⟩)⟩
 exact⟨a,C,some dx,rfl,h,c,h0,k _ (kp _) (.inr ⟨dx,ne,Aa,kp _ _ _ ne g⟩)⟩
end
section
open Lean
def mWay (s:String):MacroM (TSyntax `tactic):=
 if s == "as" then `(tactic| assumption) else if s == "ar" then `(tactic| with_reducible assumption) else `(tactic| walk_at $(quote s))
def Sa (ts:Array (TSyntax `tactic)):MacroM (TSyntax `tactic):=do
 let ts <- ts.mapM λt=>`(Lean.Parser.Tactic.tacticSeq| $t:tactic)
 `(tactic| first $[| $ts]*)
def mId (s:String):Ident:=mkIdent ((s.splitOn ".").foldl Name.mkStr Name.anonymous)
def mIs (s:String):MacroM Ident:=do return mkIdent (<- Macro.addMacroScope (.mkSimple s))
def U8:List String->TSyntax `tactic->MacroM (TSyntax `tactic)
 | [],t=>pure t
 |s :: r,t=>do
   match s.splitOn "=" with
   | [x,y]=>let w <- mWay y;let i <- mIs x;U8 r (<- `(tactic| ($t:tactic;(case $i:ident=>$w:tactic))))
   |_=>U8 r t
def mRow (s:String):MacroM (TSyntax `tactic):=do
 match s.splitOn ": " with
 | [h,c]=>
   match h.splitOn " " with
   |f :: as=>
     let xs <- as.toArray.mapM λa=>do if a == "_" then `(?_) else `(?$(<- mIs a))
     let u:=Syntax.mkApp (mId f) xs
     let t <- if as.contains "_" then `(tactic| with_reducible refine' $u) else `(tactic| refine' $u)
     U8 (c.splitOn " ") t
   |_=>Macro.throwUnsupported
 |_=>do
   if s == "as" then `(tactic| assumption)
   else if s == "no" then `(tactic| fail "no")
   else `(tactic| exact $(mId s))
def mRows (s:String):MacroM (TSyntax `tactic):=do Sa (<- (s.splitOn " | ").toArray.mapM mRow)
def mAlts (s:String):MacroM (TSyntax `tactic):=do
 let a <- Sa (<- (s.splitOn " ").toArray.mapM λn=>`(tactic| refine $(mId n) ?_))
 `(tactic| with_reducible $a:tactic)
def mAltG (s:String):MacroM (TSyntax `tactic):=do
 let a <- Sa (<- (s.splitOn " ").toArray.mapM λn=>`(tactic| refine $(mId n) λN hN=>?_))
 `(tactic| with_reducible $a:tactic)
end
section
open PySem
theorem same_refl {H:Hp}:Same H H:=Same.refl _
theorem fz_refl {H:Hp}:Fz H H:=Fz.refl _
theorem ne_none2 {H:Hp}{a b:PySem.Addr}{o:HO}(h:H a=some o)(g:H b=none):b≠a:=Ne.symm (ne_of_none h g)
def Cut (N M:St->Hp->Prop):Prop:=∀ σ H,M σ H->N σ H
section
variable {t u:TS}{te td ty tv:TE}{g:TG}{D:Ends}{σ:St}{H:Hp}
theorem ad4 (k:∀ N:St->Hp->Prop,Cut N (u D)->t {D with nx:=N} σ H):a75 t u D σ H:=k (u D) λ_ _ h=>h
theorem i_seqAG (k:∀ N:St->Hp->Prop,Cut N (u D)->a71 te g {D with nx:=N} σ H):a75 (a71 te g) u D σ H:=k (u D) λ_ _ h=>h
theorem i_seqDG (k:∀ N:St->Hp->Prop,Cut N (u D)->Vv te {D with nx:=N} σ H):a75 (Vv te) u D σ H:=k (u D) λ_ _ h=>h
theorem i_seqPG (k:∀ N:St->Hp->Prop,Cut N (u D)->Vj td ty tv {D with nx:=N} σ H):a75 (Vj td ty tv) u D σ H:=k (u D) λ_ _ h=>h
theorem i_nxS {i:Nat}{rt:VK}{bk ct:St->Hp->Prop}(k:D.nx (σ.set i none) H):Ends.nx {nx:=fun σ2 H2=>D.nx (σ2.set i none) H2,rt:=rt,bk:=bk,ct:=ct} σ H:=k
theorem i_cutN {N M:St->Hp->Prop}(h:Cut N M)(k:M σ H):N σ H:=h _ _ k
end
theorem ae1 {α:Type}{P:List α->Prop}{us:List α}(hl:us.length=0)(h:P []):P us:=by rw[A0Y.mp hl];exact h
theorem Xw {α:Type}{P:List α->Prop}{us:List α}(hl:us.length=1)(h:∀ a0:α,P [a0]):P us:=by
 cases us with
 |nil=>cases hl
 |cons a r=>exact ae1 (P:=λr=>P (a :: r)) (Nat.succ.inj hl) (h a)
theorem Yr {α:Type}{P:List α->Prop}{us:List α}(hl:us.length=2)(h:∀ a0 a1:α,P [a0,a1]):P us:=by
 cases us with
 |nil=>cases hl
 |cons a r=>exact Xw (P:=λr=>P (a :: r)) (Nat.succ.inj hl) (h a)
theorem Xo {α:Type}{P:List α->Prop}{us:List α}(hl:us.length=3)(h:∀ a0 a1 a2:α,P [a0,a1,a2]):P us:=by
 cases us with
 |nil=>cases hl
 |cons a r=>exact Yr (P:=λr=>P (a :: r)) (Nat.succ.inj hl) (h a)
theorem a89 {α:Type}{P:List α->Prop}{us:List α}(hl:us.length=4)(h:∀ a0 a1 a2 a3:α,P [a0,a1,a2,a3]):P us:=by
 cases us with
 |nil=>cases hl
 |cons a r=>exact Xo (P:=λr=>P (a :: r)) (Nat.succ.inj hl) (h a)
end
structure NamesS (ns:List Str):Prop where
 nm:Names ns
 st:("strange":Str)∉ns
 zz:("zz":Str)∉ns
theorem NamesS.perm {ns ms:List Str}(h:NamesS ns)(p:ms.Perm ns):NamesS ms:=⟨h.nm.perm p,λq=>h.st (p.mem_iff.mp q),λq=>h.zz (p.mem_iff.mp q)⟩
theorem NamesS.sublist {ns ms:List Str}(h:NamesS ns)(p:ms.Sublist ns):NamesS ms:=⟨h.nm.sublist p,λq=>h.st (p.subset q),λq=>h.zz (p.subset q)⟩
theorem ap8 {s z a:Nat}(hs:s<26)(ha:a<z)(hz:z<=8){l:List Nat}(hl:l∈Yj s z a):l.length=z:=by obtain⟨k,hk,rfl⟩:=A09.mp hl;have hm:7*k % 26<26:=Nat.mod_lt _ nofun;have e1:=Fy (a:=s) (b:=s+a) (by omega) (by omega);have e2:=Ij (i:=7*k % 26) (by omega);have e3:=Fy (a:=s) (b:=s+z-a-1) (by omega) (by omega);simp only[List.length_append];omega
section
variable {K:W.Frag}{x qual:Str}{st:Stmt}{f:Addr}{fd:FuncData}
theorem Cn {p0:Str}(F:Fun K x qual st f fd)(h:∀(kV doc pm:Value) (an:Option Addr) (cdv ct:Value) (u0:Value),bindArgs (W.fnOf x qual (Bo st) (Bc st) (A9 st) .none kV doc pm an cdv ct) ⟨[u0],[]⟩=pure (([p0]:List Str).zip [u0])):Binds K fd [p0] []:=
 F.binds λkV doc pm an cdv ct us hl=>Xw (P:=λus=>bindArgs (W.fnOf x qual (Bo st) (Bc st) (A9 st) .none kV doc pm an cdv ct) ⟨us,[]⟩=pure (([p0]:List Str).zip us)) hl (h kV doc pm an cdv ct)
theorem F4 {p0 p1:Str}(F:Fun K x qual st f fd)(h:∀(kV doc pm:Value) (an:Option Addr) (cdv ct:Value) (u0 u1:Value),bindArgs (W.fnOf x qual (Bo st) (Bc st) (A9 st) .none kV doc pm an cdv ct) ⟨[u0,u1],[]⟩=pure (([p0,p1]:List Str).zip [u0,u1])):Binds K fd [p0,p1] []:=
 F.binds λkV doc pm an cdv ct us hl=>Yr (P:=λus=>bindArgs (W.fnOf x qual (Bo st) (Bc st) (A9 st) .none kV doc pm an cdv ct) ⟨us,[]⟩=pure (([p0,p1]:List Str).zip us)) hl (h kV doc pm an cdv ct)
theorem Jk {p0 p1 p2:Str}(F:Fun K x qual st f fd)(h:∀(kV doc pm:Value) (an:Option Addr) (cdv ct:Value) (u0 u1 u2:Value),bindArgs (W.fnOf x qual (Bo st) (Bc st) (A9 st) .none kV doc pm an cdv ct) ⟨[u0,u1,u2],[]⟩=pure (([p0,p1,p2]:List Str).zip [u0,u1,u2])):Binds K fd [p0,p1,p2] []:=
 F.binds λkV doc pm an cdv ct us hl=>Xo (P:=λus=>bindArgs (W.fnOf x qual (Bo st) (Bc st) (A9 st) .none kV doc pm an cdv ct) ⟨us,[]⟩=pure (([p0,p1,p2]:List Str).zip us)) hl (h kV doc pm an cdv ct)
theorem Yh {p0 p1 p2 p3:Str}(F:Fun K x qual st f fd)(h:∀(kV doc pm:Value) (an:Option Addr) (cdv ct:Value) (u0 u1 u2 u3:Value),bindArgs (W.fnOf x qual (Bo st) (Bc st) (A9 st) .none kV doc pm an cdv ct) ⟨[u0,u1,u2,u3],[]⟩=pure (([p0,p1,p2,p3]:List Str).zip [u0,u1,u2,u3])):Binds K fd [p0,p1,p2,p3] []:=
 F.binds λkV doc pm an cdv ct us hl=>a89 (P:=λus=>bindArgs (W.fnOf x qual (Bo st) (Bc st) (A9 st) .none kV doc pm an cdv ct) ⟨us,[]⟩=pure (([p0,p1,p2,p3]:List Str).zip us)) hl (h kV doc pm an cdv ct)
end
theorem a62 {A:Around}{x:Option Value}(h:QA A):QA (A.mark x):=⟨h.un,h.gd⟩
section
open PySem.SeqAt PySem.MeetsSeq
variable {A:Around}{s:Shared}
end
def ItM (K:W.Frag)(H:Hp)(e:V):Prop:=e = .non\/(∃ b,e = .bl b)\/(∃ i,e = .int i)\/(∃ z,e = .str z)\/(∃ a ys,e = .ref a/\(SqL K H a ys\/SqT K H a ys))\/∃ a kvs,e = .ref a/\H a=some (.dK kvs)
theorem ItM.same {K:W.Frag}{H H':Hp}{e:V}(h:ItM K H e)(s:Same H H'):ItM K H' e:=by
 rcases h with h|h|h|h|⟨a,ys,h1,h2⟩|⟨a,kvs,h1,h2⟩
 . exact .inl h
 . exact .inr (.inl h)
 . exact .inr (.inr (.inl h))
 . exact .inr (.inr (.inr (.inl h)))
 . exact .inr (.inr (.inr (.inr (.inl ⟨a,ys,h1,h2.elim (λh=>.inl (s.seq h)) λh=>.inr (s.seqT h)⟩))))
 exact .inr (.inr (.inr (.inr (.inr ⟨a,kvs,h1,s _ _ h2⟩))))
section
variable {prog:Program}{w:World}{A:Around}{E:Value->Shared->Prop}{s:Shared}
set_option maxRecDepth 100000 in
end
section
variable {X:Cx}{pos p2:Pos}
end
section
variable {P:Program}{w:World}{A:Around}{E:Value->Shared->Prop}{z:Shared}
end
section
variable {X:Cx}{K:W.Frag}
end
section
variable {K:W.Frag}{H:Hp}{Q:VK}
end
mutual
def R6:PyData->Bool
 |.list _=>false
 |.dict _=>false
 |.tuple ds=>Wp ds
 |_=>true
def Wp:List PyData->Bool
 | []=>true
 |d :: ds=>R6 d&&Wp ds
end
mutual
theorem Kk {h:Heap}:∀ {v:Value} {d:PyData} {as:List Addr},Reads h v d as->R6 d=true->as=[]
 |_,_,_,.none,_=>rfl
 |_,_,_,.bool _,_=>rfl
 |_,_,_,.int _ _,_=>rfl
 |_,_,_,.str _ _,_=>rfl
 |_,_,_,.list _ _ _ _,f=>by simp only[R6] at f;cases f
 |_,_,_,.tuple _ _ _ r,f=>G6 r (by simpa only[R6] using f)
 |_,_,_,.dict _ _ _ _ _,f=>by simp only[R6] at f;cases f
theorem G6 {h:Heap}:∀ {vs:List Value} {ds:List PyData} {as:List Addr},ReadsAll h vs ds as->Wp ds=true->as=[]
 |_,_,_,.nil,_=>rfl
 |_,_,_,.cons r rs,f=>by simp only[Wp,Bool.and_eq_true] at f;rw[Kk r f.1,G6 rs f.2];rfl
end
def dsD (rs:List (Str×Str)):PyData:=.dict (rs.map λp=>(.str p.1,.str p.2))
def dsK (rs:List (Str×Str)):List (Key×V):=rs.map λp=>(Sum.inr p.1,.str p.2)
mutual
inductive RD (K:W.Frag)(H:Hp):PyData->V->Prop
 |is {d:PyData} {v:V}:Is K H d v->R6 d=true->RD K H d v
 |tup {a:Addr} {ds:List PyData} {xs:List V}:SqT K H a xs->RDL K H ds xs->RD K H (.tuple ds) (.ref a)
 |dct {a:Addr} (rs:List (Str×Str)):H a=some (.dK (dsK rs))->RD K H (dsD rs) (.ref a)
inductive RDL (K:W.Frag)(H:Hp):List PyData->List V->Prop
 |nil:RDL K H [] []
 |cons {d:PyData} {v:V} {ds:List PyData} {vs:List V}:RD K H d v->RDL K H ds vs->RDL K H (d :: ds) (v :: vs)
end
mutual
theorem RD.same {K:W.Frag}{H H':Hp}(e:Same H H'):∀ {d:PyData} {v:V},RD K H d v->RD K H' d v
 |_,_,.is h f=>.is (Is.mono e _ _ h) f
 |_,_,.tup h l=>.tup (e.seqT h) (RDL.same e l)
 |_,_,.dct rs h=>.dct rs (e _ _ h)
theorem RDL.same {K:W.Frag}{H H':Hp}(e:Same H H'):∀ {ds:List PyData} {vs:List V},RDL K H ds vs->RDL K H' ds vs
 |_,_,.nil=>.nil
 |_,_,.cons h l=>.cons (RD.same e h) (RDL.same e l)
end
theorem P5 {P:Program}{w:World}{h:Heap}:∀ {rs:List (Str×Str)} {vs:List (Key×Value)} {es:List DictEntry},KV (dsK rs) vs->Pairs (Ak P w) es vs ->
  ReadsAll h (es.map (·.key)) ((rs.map λp=>(PyData.str p.1,PyData.str p.2)).map (·.1)) []/\ReadsAll h (es.map (·.val)) ((rs.map λp=>(PyData.str p.1,PyData.str p.2)).map (·.2)) []
 | [],_,_,.nil,.nil=>⟨.nil,.nil⟩
 |p :: rs,_,_,.cons ⟨k1,k2⟩ kr,.cons q1 q2 qr=>by
   rename_i q vs e es;obtain⟨qk,qv⟩:=q;dsimp only at k1 k2 q1 q2;subst k1;obtain⟨t,rfl⟩:=k2;obtain ⟨i1,i2⟩:=P5 (h:=h) kr qr
   have hk:∃ t',e.key = .str p.1 t':=by
    have:Value.isStrOf p.1 e.key=true:=q1
    cases hkey:e.key with
    |str b t'=>
      rw[hkey] at this;have hb:b=p.1:=by simpa[Value.isStrOf] using this
      exact⟨t',by rw[hb]⟩
    |_=>rw[hkey] at this;simp[Value.isStrOf] at this
   obtain⟨t',hk⟩:=hk;refine⟨?_,?_⟩
   . simp only[List.map_cons];rw[hk];exact .cons (.str _ _) i1
   simp only[List.map_cons];rw[q2];exact .cons (.str _ _) i2
section
variable {X:Cx}{pins:List (Addr×Obj)}{σ:St}{H:Hp}{s:Shared}
mutual
theorem RD.reads (I:Inv X pins σ H s):∀ {d:PyData} {v:V} {u:Value},RD X.K H d v->RelV v u->∃ as,Reads s.heap u d as/\sysModules∉as
 |d,v,u,.is h f,r=>by obtain⟨as,ra⟩:=Is.reads I d v u h r;exact⟨as,ra,by rw[Kk ra f];simp⟩
 |_,_,u,.tup (a:=a) (ds:=ds) (xs:=xs) h l,r=>by cases r;obtain⟨its,rv,⟨o,e,hc,n,hd⟩,_⟩:=I.tuple h;obtain⟨as,ra,hs⟩:=RDL.reads I l rv;exact⟨as,.tuple e hc hd (by simpa using ra),hs⟩
 |_,_,u,.dct (a:=a) rs h,r=>by cases r;obtain⟨_,hsm,vs,kv,o,es,ep,e1,⟨e2,_,_⟩,e4,_,e6,_⟩:=(show ObjOk X.prog X.w H s.heap a (.dK (dsK rs)) from I.hok a _ h);obtain⟨r1,r2⟩:=P5 (h:=s.heap) kv e6;refine⟨_,.dict e1 e2 e4 r1 r2,?_⟩;simp only[List.append_nil,List.mem_singleton];exact Ne.symm (A0S.mp hsm)
theorem RDL.reads (I:Inv X pins σ H s):∀ {ds:List PyData} {vs:List V} {us:List Value},RDL X.K H ds vs->Vals vs us->∃ as,ReadsAll s.heap us ds as/\sysModules∉as
 |_,_,_,.nil,r=>by cases r;exact⟨_,.nil,by simp⟩
 |_,_,_,.cons h l,r=>by
   cases r with
   |cons r1 r2=>obtain⟨a1,h1,s1⟩:=RD.reads I h r1;obtain⟨a2,h2,s2⟩:=RDL.reads I l r2;exact⟨_,.cons h1 h2,λq=>(A08.mp q).elim s1 s2⟩
end
end
theorem a06 {K:W.Frag}{H H':Hp}{d a:Addr}{kvs:List (Key×V)}{xs:List V}(hd:H d=some (.dK kvs))(e:ExtBut d H H')(h:SqL K H a xs):SqL K H' a xs:=by
 rcases h with h|h
 . refine e.seq (λz=>?_) (.inl h);subst z;rcases h with h|⟨o,h⟩
   . rw[hd] at h;cases h
   rw[hd] at h;cases h
 exact .inr h
mutual
theorem Is.off {K:W.Frag}{H H':Hp}{d:Addr}{kvs:List (Key×V)}(hd:H d=some (.dK kvs))(e:ExtBut d H H'):∀(D:PyData) (v:V),Is K H D v->Is K H' D v
 |.none,_,h=>by simp only[Is] at h ⊢;exact h
 |.bool _,_,h=>by simp only[Is] at h ⊢;exact h
 |.int _,_,h=>by simp only[Is] at h ⊢;exact h
 |.str _,_,h=>by simp only[Is] at h ⊢;exact h
 |.list ds,v,h=>by simp only[Is] at h ⊢;obtain⟨a,xs,e1,e2,e3⟩:=h;exact⟨a,xs,e1,a06 hd e e2,IsL.off hd e ds xs e3⟩
 |.tuple ds,v,h=>by simp only[Is] at h ⊢;obtain⟨a,xs,e1,e2,e3⟩:=h;exact⟨a,xs,e1,(e.fzD hd).seq e2,IsL.off hd e ds xs e3⟩
 |.dict _,_,h=>by simp only[Is] at h
theorem IsL.off {K:W.Frag}{H H':Hp}{d:Addr}{kvs:List (Key×V)}(hd:H d=some (.dK kvs))(e:ExtBut d H H'):∀(ds:List PyData) (vs:List V),IsL K H ds vs->IsL K H' ds vs
 | [],_,h=>by simp only[IsL] at h ⊢;exact h
 |D :: ds,vs,h=>by simp only[IsL] at h ⊢;obtain⟨v,r,e1,e2,e3⟩:=h;exact⟨v,r,e1,Is.off hd e D v e2,IsL.off hd e ds r e3⟩
end
mutual
def Zj:PyData->Bool
 |.str z=>z.cps.toList.all λc=>decide (c<128)
 |.list ds=>Y7 ds
 |.tuple ds=>Y7 ds
 |.dict _=>false
 |_=>true
def Y7:List PyData->Bool
 | []=>true
 |d :: ds=>Zj d&&Y7 ds
end
mutual
def a74:PyData->Nat
 |.list ds=>max ds.length (Yd ds)
 |.tuple ds=>max ds.length (Yd ds)
 |_=>0
def Yd:List PyData->Nat
 | []=>0
 |d :: ds=>max (a74 d) (Yd ds)
end
structure Dk (p w W:Nat)(D:PyData):Prop where
 asc:Zj D=true
 lay:D.canLay0=true
 sh:D.showable=true
 lv:D.leavesShort 45=true
 dp:D.depth<=p
 wt:D.weight<=w
 wd:a74 D<=W
structure Els (p w W:Nat)(ds:List PyData):Prop where
 all:∀ e∈ds,∃ u,Dk p u W e
 wt:PyData.weightAll ds<=w
 len:ds.length<=W
theorem Dk.le {p w W p' w' W':Nat}{D:PyData}(h:Dk p w W D)(h1:p<=p')(h2:w<=w')(h3:W<=W':=by omega):Dk p' w' W' D:=⟨h.asc,h.lay,h.sh,h.lv,A0P h.dp h1,A0P h.wt h2,A0P h.wd h3⟩
theorem Su {p W:Nat}:∀ {ds:List PyData},(∀ e∈ds,∃ u,Dk p u W e)->Y7 ds=true/\PyData.canLayAll0 ds=true/\PyData.showableAll ds=true/\PyData.leavesShortAll 45 ds=true/\PyData.depthAll ds<=p/\Yd ds<=W
 | [],_=>⟨by simp only[Y7],by simp only[PyData.canLayAll0],by simp only[PyData.showableAll],by simp only[PyData.leavesShortAll],by simp only[PyData.depthAll];omega,by simp only[Yd];omega⟩
 |d :: ds,h=>by obtain⟨u,a⟩:=h d ∅;obtain⟨b0,b1,b2,b3,b4,b5⟩:=Su (ds:=ds) λe he=>h e (by simp[he]);have:=a.dp;have:=a.wd;exact⟨by simp only[Y7,a.asc,b0,Bool.and_self],by simp only[PyData.canLayAll0,a.lay,b1,Bool.and_self],by simp only[PyData.showableAll,a.sh,b2,Bool.and_self],by simp only[PyData.leavesShortAll,a.lv,b3,Bool.and_self],by simp only[PyData.depthAll];omega,by simp only[Yd];omega⟩
theorem S9 {p W:Nat}:∀ {ds:List PyData},Y7 ds=true->PyData.canLayAll0 ds=true->PyData.showableAll ds=true->PyData.leavesShortAll 45 ds=true->PyData.depthAll ds<=p->Yd ds<=W->∀ e∈ds,∃ u,Dk p u W e
 | [],_,_,_,_,_,_=>λe he=>by cases he
 |d :: ds,h0,h1,h2,h3,h4,h5=>λe he=>by
   simp only[Y7,PyData.canLayAll0,PyData.showableAll,PyData.leavesShortAll,PyData.depthAll,Yd,Bool.and_eq_true] at h0 h1 h2 h3 h4 h5;rcases A0D.mp he with rfl|he
   . exact⟨_,h0.1,h1.1,h2.1,h3.1,by omega,A0A _,by omega⟩
   exact S9 h0.2 h1.2 h2.2 h3.2 (by omega) (by omega) e he
theorem Pb {p w W:Nat}{ds:List PyData}(h:Els p w W ds):Dk (p+1) w W (.tuple ds):=by obtain⟨a0,a1,a2,a3,a4,a5⟩:=Su h.all;have:=h.len;exact⟨by simpa only[Zj] using a0,by simpa only[PyData.canLay0] using a1,by simpa only[PyData.showable] using a2,by simpa only[PyData.leavesShort] using a3,by simp only[PyData.depth];omega,by simpa only[PyData.weight] using h.wt,by simp only[a74];omega⟩
theorem Dk.els {p w W:Nat}{ds:List PyData}(h:Dk (p+1) w W (.tuple ds)):Els p w W ds:=by obtain⟨a0,a1,a2,a3,a4,a5,a6⟩:=h;simp only[a74,Zj,PyData.canLay0,PyData.showable,PyData.leavesShort,PyData.depth,PyData.weight] at a0 a1 a2 a3 a4 a5 a6;exact⟨S9 a0 a1 a2 a3 (by omega) (by omega),a5,by omega⟩
theorem M9:∀ as bs:List PyData,PyData.weightAll (as++bs)=PyData.weightAll as+PyData.weightAll bs
 | [],bs=>by simp only[List.nil_append,PyData.weightAll];omega
 |a :: as,bs=>by have:=M9 as bs;simp only[List.cons_append,PyData.weightAll];omega
theorem Els.app {p w w' W:Nat}{as bs:List PyData}(h:Els p w W as)(g:Els p w' W bs){W':Nat}(hl:as.length+bs.length<=W')(hW:W<=W'):Els p (w+w') W' (as++bs):=
 ⟨λe he=>let ⟨u,k⟩:=(A08.mp he).elim (h.all e) (g.all e);⟨u,k.le (A0A _) (A0A _) hW⟩,by rw[M9];exact Nat.add_le_add h.wt g.wt,by rw[A0H];exact hl⟩
theorem Els.sub {p w W:Nat}{ds es:List PyData}(h:Els p w W ds)(hs:∀ e∈es,e∈ds)(hw:PyData.weightAll es<=PyData.weightAll ds)(hl:es.length<=ds.length):Els p w W es:=⟨λe he=>h.all e (hs e he),A0P hw h.wt,A0P hl h.len⟩
theorem Tj (ds:List PyData)(n:Nat):PyData.weightAll (ds.drop n)<=PyData.weightAll ds:=by have:=M9 (ds.take n) (ds.drop n);rw[A4K] at this;omega
theorem Sq (ds:List PyData)(n:Nat):PyData.weightAll (ds.take n)<=PyData.weightAll ds:=by have:=M9 (ds.take n) (ds.drop n);rw[A4K] at this;omega
theorem Els.take {p w W:Nat}{ds:List PyData}(h:Els p w W ds)(n:Nat):Els p w W (ds.take n):=h.sub (λe he=>A2W he) (Sq ds n) (by rw[A17];omega)
theorem Els.drop {p w W:Nat}{ds:List PyData}(h:Els p w W ds)(n:Nat):Els p w W (ds.drop n):=h.sub (λe he=>A4N he) (Tj ds n) (by rw[A24];omega)
theorem Els.one {p w W:Nat}{D:PyData}(h:Dk p w W D)(hW:1<=W):Els p (w+1) W [D]:=⟨λe he=>by rw[List.mem_singleton.mp he];exact⟨w,h⟩,by simp only[PyData.weightAll];have:=h.wt;omega,by simpa using hW⟩
def Asc (z:Str):Prop:=∀ c∈z.cps.toList,c<128
theorem Asc.ok {z:Str}(h:Asc z):PyData.strOk z=true:=by unfold PyData.strOk;rw[<- Array.all_toList,A0W];intro c hc;have:=h c hc;exact A0U (by omega)
theorem ac8 {p w W:Nat}{z:Str}(h:Asc z)(hl:z.length<=w):Dk p w W (.str z):=by
 refine⟨?_,by simpa only[PyData.canLay0] using h.ok,by simp only[PyData.showable],?_,by simp only[PyData.depth];omega,by simp only[PyData.weight];exact hl,by simp only[a74];omega⟩
 . simp only[Zj];rw[A0W];exact λc hc=>A0U (h c hc)
 simp only[PyData.leavesShort];rw[A0W];intro c hc;have:=h c hc;exact A0U (by omega)
theorem Dk.str {p w W:Nat}{z:Str}(h:Dk p w W (.str z)):Asc z/\z.length<=w:=by obtain⟨a0,_,_,_,_,a5,_⟩:=h;simp only[Zj,List.all_eq_true] at a0;simp only[PyData.weight] at a5;exact⟨λc hc=>A21 (a0 c hc),a5⟩
theorem Asc.app {a b:Str}(h:Asc a)(g:Asc b):Asc (a++b):=λc hc=>by have hc:c∈(a.cps++b.cps).toList:=hc;rw[A4W] at hc;exact(A08.mp hc).elim (h c) (g c)
theorem Dk.shaped {p w W:Nat}{D:PyData}(h:Dk p w W D)(hp:p<=64):SeqAt.shaped D=true:=by have:=h.dp;unfold SeqAt.shaped;rw[h.lay,A0U (by omega)];rfl
theorem J9 {xs:List V}{t:Int}(h0:0<=t):O7 xs (some t) none=xs.drop t.toNat:=by
 by_cases h:t<=xs.length
 . exact Wc h0 h
 have e:HT.sIx xs.length 0 (some t)=xs.length:=by unfold HT.sIx;simp[show ¬ t<0 by omega];omega
 unfold O7;rw[e,List.drop_length,List.take_nil,List.drop_eq_nil_of_le (by omega)]
section
variable {X:Cx}{K:W.Frag}
end
section
variable {prog:Program}{w:World}{A:Around}{E:Value->Shared->Prop}{s:Shared}
end
section
variable {P:Program}{w:World}{A:Around}{R:Result->Shared->Prop}{it:Addr}{fp wr:List Addr}{G:Array GenState->Array GenState->Prop}{n:Nat}{PV:Nat->Value->Prop}{St:Nat->Shared->Prop}
end
section
variable {prog:Program}{w:World}{A:Around}{E:Value->Shared->Prop}{s:Shared}
set_option maxHeartbeats 3200000 in
def SIt (g:Heap)(it b:Addr)(first:Value)(i n ep:Nat):Prop:=∃ o,g.get? it=some o/\o.cls = .type "set_iterator" /\ o.data = .fields #[first,.int i 0,.ref b,.int n 0,.int ep 0]
def SOb (g:Heap)(b:Addr)(xs:Array (Int×Value))(ep:Nat)(tb:SetTable):Prop:=∃ ob,g.get? b=some ob/\ob.ExactSet/\ob.data = .set xs ep tb
theorem SIt.ty {it b:Addr}{first:Value}{i n ep:Nat}(h:SIt s.heap it b first i n ep):s.TypeIs (.ref it) "set_iterator":=let ⟨o,h1,h2,_⟩:=h;⟨o,h1,h2⟩
theorem SIt.keep {g g':Heap}{it b:Addr}{first:Value}{i n ep:Nat}(h:SIt g it b first i n ep)(k:∀ o,g.get? it=some o->g'.get? it=some o):SIt g' it b first i n ep:=let ⟨o,h1,h2⟩:=h;⟨o,k o h1,h2⟩
theorem SOb.keep {g g':Heap}{b:Addr}{xs:Array (Int×Value)}{ep:Nat}{tb:SetTable}(h:SOb g b xs ep tb)(k:∀ o,g.get? b=some o->g'.get? b=some o):SOb g' b xs ep tb:=let ⟨o,h1,h2⟩:=h;⟨o,k o h1,h2⟩
end
section
variable {X:Cx}{K:W.Frag}
end
end L2
namespace L2
open PySem PySem.Spec PyProof.Rows
open Builtin
theorem Gs:fillsNumberSlot (.type "tuple") "mul" = pure false:=
 PySem.fillsNumberSlot_seq (id:="tuple.__mul__") (r:=some (.builtin "tuple.__rmul__")) F.slot_tuple_mul.lookup (by decide +kernel) F.slot_tuple_rmul.lookup (by decide +kernel)
theorem Gp:seqRepeat? (.type "tuple")=pure (some (.builtin "tuple.__mul__")):=by unfold seqRepeat?;rw[PySem.seqSlot_of (T:="tuple") (name:="__mul__") (id:="tuple.__mul__") F.slot_tuple_mul.lookup (by decide +kernel),PySem.seqSlot_of (T:="tuple") (name:="__rmul__") (id:="tuple.__rmul__") F.slot_tuple_rmul.lookup (by decide +kernel)];rfl
theorem Lh (x:Int)(t:Tok)(l:Addr)(its:Array Value)(n:Nat)(dc:Option Addr)(sl:Array (Option Value)) :
  Meets (Builtin.«int.__rmul__» ⟨[.int x t,.ref l],[]⟩) (λ_ R z=>z.heap.get? l=some {cls:=.type "tuple",dict:=dc,data:=.seq its n,slots:=sl}/\R (.ok (.ret Value.notImplemented)) z):=
 .of_wp λprog w A R z h=>by obtain⟨hp,g,d,tk,os⟩:=z;obtain⟨hl,h⟩:=h;wp_walk;exact⟨_,rfl,h⟩
theorem a42 (l:Addr)(its:Array Value)(n:Nat)(dc:Option Addr)(sl:Array (Option Value))(x:Int)(u:Tok)(h0:¬ (decide (x < -(2 ^ 63))||decide (x>=2 ^ 63))=true)(h1:¬ (its.isEmpty||x==1)=true)(h2:¬ (decide (x<=0)||its.isEmpty)=true)(h3:¬ (its.size:Int)*x>(2 ^ 63-1) / 8)(h4:¬ Builtin.Tuple.tupleTooMany ((its.size:Int)*x)=true)
  (h5:((List.replicate x.toNat its).foldl (· ++ ·) #[]).size<=sizeLine) :
  Meets (Builtin.«tuple.__mul__» ⟨[.ref l,.int x u],[]⟩) (λ_ R z=>z.heap.get? l=some {cls:=.type "tuple",dict:=dc,data:=.seq its n,slots:=sl}/\R (.ok (.ret (.ref z.heap.objs.size))) {z with heap:=z.heap.push {cls:=.type "tuple",data:=.seq ((List.replicate x.toNat its).foldl (· ++ ·) #[])}}):=
 .of_wp λprog w A R z h=>by
  obtain⟨hp,g,d,tk,os⟩:=z;obtain⟨hl,h⟩:=h
  wp_walk
  rw[A0L h0]
  wp_walk
  rw[A0L h3];show wpAny _ _ (if Builtin.Tuple.tupleTooMany (its.size*x)=true then _ else _) _ _ _
  rw[A0L h4];refine A00 (A20 (A04 ?_) h5);exact⟨_,rfl,h⟩
section
variable {X:Cx}{K:W.Frag}
end
end L2
namespace L2
open PySem PySem.Spec PyProof.Rows
section
variable {P:Program}{w:World}{K:W.Frag}{mg:Str->Option Value}{base:Heap}{k:Nat}{f:Addr}{fd:FuncData}{ps:List Str}{sp sp':Sp}
theorem FnOk.up (F:FnOk P w K mg base CX0 k f fd ps sp):FnOk P w K mg base (CX1 P w) k f fd ps sp:=
 ⟨F.len,λA outer s H args us vs Q E hr he hb hv h=>A3F (F.run A outer s H args us vs Q E hr he hb hv h) λr s' q=>by
  cases r with
  |ok v=>cases v<;>exact q
  |error e=>exact q.elim⟩
theorem FnOk.or {CX:CXT}(F:FnOk P w K mg base CX k f fd ps sp)(G:FnOk P w K mg base CX k f fd ps sp'):FnOk P w K mg base CX k f fd ps (λvs H Q E=>sp vs H Q E\/sp' vs H Q E):=
 ⟨λvs H Q E q=>q.elim (F.len vs H Q E) (G.len vs H Q E),λA outer s H args us vs Q E hr he hb hv h=>h.elim (F.run A outer s H args us vs Q E hr he hb hv) (G.run A outer s H args us vs Q E hr he hb hv)⟩
end
section
variable {P:Program}{w:World}{A:Around}{E:Value->Shared->Prop}{z:Shared}
theorem zipF {c TI TO i1 i2:Addr}{fp1 fp2:List Addr}{n n2 i:Nat}{P1 P2:Nat->Value->Prop}{S1 S2:Nat->Heap->Prop}{u0 v0:Value}{Q:Value->Shared->Prop}
  (D1:Draws P w A i1 fp1 n P1 S1) (D2:Draws P w A i2 fp2 n2 P2 S2) (hi:i<n) (hi2:i<n2) (hc:J7 z.heap c TI TO .none false) (hTI:IsPair z.heap TI (.ref i1) (.ref i2)) (hTO:IsPair z.heap TO u0 v0)
  (h1:S1 i z.heap) (h2:S2 i z.heap) (c1:c∉fp1) (c2:c∉fp2) (o1:TO∉fp1) (o2:TO∉fp2) (x1:i1∉fp2) (x2:i2∉fp1) (y1:i1≠c) (y2:i2≠c) (oc:TO≠c) (oi1:TO≠i1) (oi2:TO≠i2)
  (go:∀ g tk x y,P1 i x->P2 i y->J7 g c TI TO (rawInt z.heap.objs.size) false->IsPair g TO x y->IsPair g z.heap.objs.size x y->S1 (i+1) g->S2 (i+1) g->(∀ b ob,b≠c->b≠i1->b≠i2->b≠TO->z.heap.get? b=some ob->g.get? b=some ob)->Q (.ref z.heap.objs.size) {z with heap:=g,toks:=tk}) :
  wpAny (model P w) A (Builtin.«zip.__next__» ⟨[.ref c],[]⟩) (λfin s'=>∃ v,fin = .done (.ret v)/\Q v s') E z:=by
 show wpAny _ _ (field (.ref c) 2 >>= _) _ _ _;refine(A00 (A16 hc rfl (x:=.bool false) rfl ?_));show wpAny _ _ (field (.ref c) 3 >>= _) _ _ _;refine(A00 (A16 hc rfl (x:=.ref TI) rfl ?_));refine(A00 (A1Y hTI rfl ?_));show wpAny _ _ (Builtin.SmallTypes.ownedTupleIsFree (.ref c) >>= _) _ _ _;refine(A00 ?_);unfold Builtin.SmallTypes.ownedTupleIsFree;refine(A00 (A16 hc rfl (x:=.none) rfl (A04 ?_)));simp only[if_true];refine(A00 (A3W ?_));refine(A00 (A16 hc rfl (x:=.ref TO) rfl ?_));refine(A00 (A28 hc ∅ λg0 hc0 sb0=>?_));refine(A00 ?_);simp only[List.zipIdx_cons,List.zipIdx_nil,List.forIn_cons,List.forIn_nil];have h1':S1 i g0:=D1.frame i _ _ h1 λb hb ob q=>sb0.extBut b ob (λe=>c1 (e ▸ hb)) q;have h2':S2 i g0:=D2.frame i _ _ h2 λb hb ob q=>sb0.extBut b ob (λe=>c2 (e ▸ hb)) q;have hTO0:IsPair g0 TO u0 v0:=sb0.extBut _ _ oc hTO;refine(A00 (A00 (A3L ?_)));show wpAny _ _ (Builtin.SmallTypes.nextOf (.ref i1) >>= _) _ _ _;refine(A00 (D1.item i _ _ _ hi h1' λx g1 tk1 hx hS1 sb1=>A04 ?_));have hTO1:IsPair g1 TO u0 v0:=sb1.extBut _ _ oi1 hTO0;refine(A00 (A1Y hTO1 rfl ?_));refine(A00 (A4P hTO1 λg2 hTO2 sb2=>?_));refine(A00 (wpAny_letGo (A04 ?_)));have h2'':S2 i g2:=D2.frame i _ _ h2' λb hb ob q=>sb2.extBut b ob (λe=>o2 (e ▸ hb)) (sb1.extBut b ob (λe=>x1 (e ▸ hb)) q);have hS1':S1 (i+1) g2:=D1.frame _ _ _ hS1 λb hb ob q=>sb2.extBut b ob (λe=>o1 (e ▸ hb)) q;refine(A00 (A00 (A3L ?_)));show wpAny _ _ (Builtin.SmallTypes.nextOf (.ref i2) >>= _) _ _ _;refine(A00 (D2.item i _ _ _ hi2 h2'' λy g3 tk3 hy hS2 sb3=>A04 ?_));have hTO3:IsPair g3 TO x v0:=sb3.extBut _ _ oi2 hTO2;refine(A00 (A1Y hTO3 rfl ?_));refine(A00 (A4P hTO3 λg4 hTO4 sb4=>?_));refine(A00 (wpAny_letGo (A04 (A04 ?_))));have hTO4':IsPair g4 TO x y:=hTO4;refine(A00 (A1Y hTO4' rfl ?_));refine(A00 (wpAny_newTuple ?_));have hsz:g4.objs.size=z.heap.objs.size:=by rw[sb4.1,sb3.1,sb2.1,sb1.1,sb0.1]
 have hc4:J7 g4 c TI TO .ellipsis false:=sb4.extBut _ _ (Ne.symm oc) (sb3.extBut _ _ (Ne.symm y2) (sb2.extBut _ _ (Ne.symm oc) (sb1.extBut _ _ (Ne.symm y1) hc0)));have hlt:c<g4.objs.size:=A07 hc4;show wpAny _ _ (Builtin.SmallTypes.ownedTupleHandOut (.ref c) (.ref g4.objs.size) >>= _) _ _ _;refine(A00 ?_);unfold Builtin.SmallTypes.ownedTupleHandOut;have hc5:J7 (g4.push {cls:=.type "tuple",data:=.seq #[x,y]}) c TI TO .ellipsis false:=A01 _ hc4;refine(A00 (A28 hc5 ∅ λg6 hc6 sb6=>?_));refine(A28 hc6 ∅ λg7 hc7 sb7=>?_);have up:∀ b ob,b≠c->g4.get? b=some ob->g7.get? b=some ob:=λb ob b1 q=>sb7.extBut b ob b1 (sb6.extBut b ob b1 (A01 _ q));refine(A04 ⟨_,rfl,?_⟩);have hS2':S2 (i+1) g4:=D2.frame _ _ _ hS2 λb hb ob q=>sb4.extBut b ob (λe=>o2 (e ▸ hb)) q;have hS1'':S1 (i+1) g4:=D1.frame _ _ _ hS1' λb hb ob q=>sb4.extBut b ob (λe=>o1 (e ▸ hb)) (sb3.extBut b ob (λe=>x2 (e ▸ hb)) q);rw[hsz] at hc7 ⊢;refine go g7 tk3 x y hx hy hc7 (up _ _ oc hTO4') (by rw[<- hsz];exact sb7.extBut _ _ (A2Q hlt) (sb6.extBut _ _ (A2Q hlt) (A0E _ rfl))) ?_ ?_ ?_
 . exact D1.frame _ _ _ hS1'' λb hb ob q=>up b ob (λe=>c1 (e ▸ hb)) q
 . exact D2.frame _ _ _ hS2' λb hb ob q=>up b ob (λe=>c2 (e ▸ hb)) q
 exact λb ob b1 b2 b3 b4 q=>up b ob b1 (sb4.extBut b ob b4 (sb3.extBut b ob b3 (sb2.extBut b ob b4 (sb1.extBut b ob b2 (sb0.extBut b ob b1 q)))))
theorem zipN {c TI TO i1 i2:Addr}{fp1 fp2:List Addr}{n n2:Nat}{P1 P2:Nat->Value->Prop}{S1 S2:Nat->Heap->Prop}{u0 v0:Value}{Q:PySem.Fin->Shared->Prop}
  (D1:Draws P w A i1 fp1 n P1 S1) (D2:Draws P w A i2 fp2 n2 P2 S2) (hi:n2<n) (hc:J7 z.heap c TI TO .none false) (hTI:IsPair z.heap TI (.ref i1) (.ref i2)) (hTO:IsPair z.heap TO u0 v0) (h1:S1 n2 z.heap) (h2:S2 n2 z.heap) (c1:c∉fp1) (c2:c∉fp2) (o2:TO∉fp2) (x1:i1∉fp2) (y1:i1≠c) (y2:i2≠c) (oc:TO≠c) (oi1:TO≠i1)
  (stop:∀ g tk e,(∀ b ob,b≠c->b≠i1->b≠i2->b≠TO->z.heap.get? b=some ob->g.get? b=some ob)->(∃ ob,g.get? e=some ob/\ob.cls = .type "StopIteration")->E (.ref e) {z with heap:=g,toks:=tk}) :
  wpAny (model P w) A (Builtin.«zip.__next__» ⟨[.ref c],[]⟩) Q E z:=by
 show wpAny _ _ (field (.ref c) 2 >>= _) _ _ _;refine(A00 (A16 hc rfl (x:=.bool false) rfl ?_));show wpAny _ _ (field (.ref c) 3 >>= _) _ _ _;refine(A00 (A16 hc rfl (x:=.ref TI) rfl ?_));refine(A00 (A1Y hTI rfl ?_));show wpAny _ _ (Builtin.SmallTypes.ownedTupleIsFree (.ref c) >>= _) _ _ _;refine(A00 ?_);unfold Builtin.SmallTypes.ownedTupleIsFree;refine(A00 (A16 hc rfl (x:=.none) rfl (A04 ?_)));simp only[if_true];refine(A00 (A3W ?_));refine(A00 (A16 hc rfl (x:=.ref TO) rfl ?_));refine(A00 (A28 hc ∅ λg0 hc0 sb0=>?_));refine(A00 ?_);simp only[List.zipIdx_cons,List.zipIdx_nil,List.forIn_cons,List.forIn_nil];have h1':S1 n2 g0:=D1.frame n2 _ _ h1 λb hb ob q=>sb0.extBut b ob (λe=>c1 (e ▸ hb)) q;have h2':S2 n2 g0:=D2.frame n2 _ _ h2 λb hb ob q=>sb0.extBut b ob (λe=>c2 (e ▸ hb)) q;have hTO0:IsPair g0 TO u0 v0:=sb0.extBut _ _ oc hTO;refine(A00 (A00 (A3L ?_)));show wpAny _ _ (Builtin.SmallTypes.nextOf (.ref i1) >>= _) _ _ _;refine(A00 (D1.item n2 _ _ _ hi h1' λx g1 tk1 hx hS1 sb1=>A04 ?_));have hTO1:IsPair g1 TO u0 v0:=sb1.extBut _ _ oi1 hTO0;refine(A00 (A1Y hTO1 rfl ?_));refine(A00 (A4P hTO1 λg2 hTO2 sb2=>?_));refine(A00 (wpAny_letGo (A04 ?_)));have h2'':S2 n2 g2:=D2.frame n2 _ _ h2' λb hb ob q=>sb2.extBut b ob (λe=>o2 (e ▸ hb)) (sb1.extBut b ob (λe=>x1 (e ▸ hb)) q);refine(A00 (A00 (A3L ?_)));show wpAny _ _ (Builtin.SmallTypes.nextOf (.ref i2) >>= _) _ _ _;refine(A00 (D2.done _ _ _ h2'' λg3 e sb3 he=>?_));obtain⟨oe,hoe,hce⟩:=he;have hc3:J7 g3 c TI TO .ellipsis false:=sb3 _ _ (Ne.symm y2) (sb2.extBut _ _ (Ne.symm oc) (sb1.extBut _ _ (Ne.symm y1) hc0));have hez:e≠c:=λq=>by subst q;rw[show g3.get? _=_ from hc3] at hoe;cases hoe;simp at hce
 refine(A28 hc3 ∅ λg4 _ sb4=>?_);exact stop g4 tk1 e (λb ob b1 b2 b3 b4 q=>sb4.extBut b ob b1 (sb3 b ob b3 (sb2.extBut b ob b4 (sb1.extBut b ob b2 (sb0.extBut b ob b1 q))))) ⟨oe,sb4.extBut _ _ hez hoe,hce⟩
end
def Itz (K:W.Frag)(a b:Addr):It:=
 ⟨λi H=>∃ xs ys x y,SqT K H a xs/\SqT K H b ys/\xs[i]? = some x/\ys[i]? = some y,λi H v H'=>∃ t x y,H t=none/\H'=upd H t (.tup [x,y])/\v = .ref t/\(∀ xs,SqT K H a xs->xs[i]? = some x)/\∀ ys,SqT K H b ys->ys[i]? = some y,λi H=>∃ xs ys,SqT K H a xs/\SqT K H b ys/\(xs.length=i\/(i<xs.length/\ys.length=i))⟩
def ZTn (c TI TO i1 i2 a b:Addr)(i:Nat)(h:Heap):Prop:=J7 h c TI TO .none false/\IsPair h TI (.ref i1) (.ref i2)/\(∃ u v,IsPair h TO u v)/\h.IsTupleIter i1 a i/\h.IsTupleIter i2 b i
structure Ye (c TI TO i1 i2 a b:Addr):Prop where
 nd:[c,TI,TO,i1,i2].Nodup
 na:a∉[c,TI,TO,i1,i2]
 nb:b∉[c,TI,TO,i1,i2]
theorem Wa {P:Program}{w:World}{K:W.Frag}{elts:List Expr}{ek:Nat}{epos:Pos}(c TI TO i1 i2 a b:Addr)(O:Ye c TI TO i1 i2 a b):V6 P w K (.Tuple elts ek epos) (Itz K a b) [c,TI,TO,i1,i2] c (ZTn c TI TO i1 i2 a b) where
 mem:=by simp
 obj:=λi h st x hx=>by
  obtain⟨h1,h2,⟨u,v,h3⟩,⟨o4,h4,_,d4⟩,⟨o5,h5,_,d5⟩⟩:=st;simp only[List.mem_cons,List.not_mem_nil,or_false] at hx;rcases hx with rfl|rfl|rfl|rfl|rfl
  . exact⟨_,h1,λv z=>by cases z⟩
  . exact⟨_,h2,λv z=>by cases z⟩
  . exact⟨_,h3,λv z=>by cases z⟩
  . exact⟨o4,h4,λv z=>by rw[d4] at z;cases z⟩
  exact⟨o5,h5,λv z=>by rw[d5] at z;cases z⟩
 keep:=λi h h' st k=>by obtain⟨h1,h2,⟨u,v,h3⟩,h4,h5⟩:=st;exact⟨k c ∅ _ h1,k TI ∅ _ h2,⟨u,v,k TO ∅ _ h3⟩,h4.at λo q=>k i1 ∅ o q,h5.at λo q=>k i2 ∅ o q⟩
 item:=by
  intro X hP hw hK hc i pins s σ H E I hf st hg;subst hP hw hK;obtain⟨nd,na,nb⟩:=O;simp only[List.nodup_cons,List.mem_cons,List.not_mem_nil,or_false,not_or,List.nodup_nil,and_true,not_false_eq_true] at nd na nb;obtain⟨⟨n1,n2,n3,n4⟩,⟨n5,n6,n7⟩,⟨n8,n9⟩,n10⟩:=nd;obtain⟨a1,a2,a3,a4,a5⟩:=na;obtain⟨b1,b2,b3,b4,b5⟩:=nb;obtain⟨xs,ys,x,y,hqa,hqb,hx,hy⟩:=hg;obtain⟨its,rv,p,hz⟩:=I.tuple hqa;obtain⟨jts,rw',p',hz'⟩:=I.tuple hqb;obtain⟨u,hu,ru⟩:=rv.get hx;obtain⟨v,hv,rv2⟩:=rw'.get hy;have hil:i<its.length:=(A02.mp hu).1;have hjl:i<jts.length:=(A02.mp hv).1;have hd:X.A.in1.handled=none:=by simpa using I.ok.hd hc
  have D1:=Kp (prog:=X.prog) (w:=X.w) hd i1 a a4 its.toArray;have D2:=Kp (prog:=X.prog) (w:=X.w) hd i2 b b5 jts.toArray;obtain⟨h1,h2,⟨u0,v0,h3⟩,h4,h5⟩:=st;have hT:s.TypeIs (.ref c) "zip":=⟨_,h1,rfl⟩;have hcl:c<s.heap.objs.size:=A07 h1;have hTIl:TI<s.heap.objs.size:=A07 h2;have hTOl:TO<s.heap.objs.size:=A07 h3;have h1l:i1<s.heap.objs.size:=let ⟨_,q,_⟩:=h4;A07 q;have h2l:i2<s.heap.objs.size:=let ⟨_,q,_⟩:=h5;A07 q;unfold pyNext
  refine A00 (wpAny_attempt (A2H (name:=Str.ofString "__next__") hT F.slot_zip_next (A2Z F.slot_zip_next hT F.entry_zip_next
   (zipF D1 D2 (by simpa using hil) (by simpa using hjl) h1 h2 h3 ⟨h4,p⟩ ⟨h5,p'⟩ (by simp[n3,Ne.symm a1]) (by simp[n4,Ne.symm b1]) (by simp[n8,Ne.symm a3]) (by simp[n9,Ne.symm b3]) (by simp[n10,Ne.symm b4]) (by simp[Ne.symm n10,Ne.symm a5]) (Ne.symm n3) (Ne.symm n4) (Ne.symm n2) n8 n9 λg tk x' y' px py gz gTO gu g1 g2 kp=>?_) (F.args_zip_next_1 _))))
  have ex:x'=u:=by have q:its.toArray[i]? = some x':=px;rw[A2U,hu] at q;exact(A0X q).symm
  have ey:y'=v:=by have q:jts.toArray[i]? = some y':=py;rw[A2U,hv] at q;exact(A0X q).symm
  subst ex ey;refine A04 ⟨_,rfl,wpAny_letOwnedTupleGo_zip gz λg' gz' hs'=>?_⟩;have hTn:H s.heap.objs.size=none:=I.hok.fresh (A0A _)
  have I1:Inv X pins σ (upd H s.heap.objs.size (.tup [x,y])) {s with heap:=s.heap.push {cls:=.type "tuple",data:=.seq #[x',y']}}:=
   I.laid (t':=s.toks) (λb ob q=>Heap.get?_push_of_some _ q) (Nat.le_refl _) ⟨by simp[sizeLine_eq],[x',y'],.cons ru (.cons rv2 .nil),_,Heap.get?_push_size _ rfl,rfl,⟨_,rfl⟩,rfl⟩
  have nT:∀ q∈[c,TI,TO,i1,i2],q≠s.heap.objs.size:=λq hq=>by simp only[List.mem_cons,List.not_mem_nil,or_false] at hq;rcases hq with rfl|rfl|rfl|rfl|rfl<;>exact A0O (by assumption)
  have up:∀ q o,q≠c->g.get? q=some o->g'.get? q=some o:=λq o hq e=>hs'.extBut q o hq e;have I2:Inv X pins σ (upd H s.heap.objs.size (.tup [x,y])) {s with heap:=g',toks:=tk}:=Inv.turnedL (s:={s with heap:=s.heap.push {cls:=.type "tuple",data:=.seq #[x',y']}}) (ch:=[c,TI,TO,i1,i2]) I1 (λq ob hq e=>?_) (λq hq=>?_)
  . refine⟨.ref s.heap.objs.size,_,I2,rfl,⟨_,x,y,hTn,rfl,rfl,λzs hz=>by rw[I.tuple_inj hz hqa];exact hx,λzs hz=>by rw[I.tuple_inj hz hqb];exact hy⟩,⟨gz',up _ _ (Ne.symm n1) (kp _ _ (Ne.symm n1) n6 n7 n5 h2),⟨_,_,up _ _ (Ne.symm n2) gTO⟩,g1.1.at λo q=>up _ _ (Ne.symm n3) q,g2.1.at λo q=>up _ _ (Ne.symm n4) q⟩,λq hq=>?_⟩;rw[Al (nT q hq)];exact(hf q hq).1
  . simp only[List.mem_cons,List.not_mem_nil,or_false,not_or] at hq;rcases Heap.get?_push_cases e with ⟨rfl,rfl⟩|e
    . exact up _ _ (A2Q hcl) gu
    exact up _ _ hq.1 (kp q ob hq.1 hq.2.2.2.1 hq.2.2.2.2 hq.2.2.1 e)
  obtain⟨f0,f1,f2,f3,f4,f5⟩:=hf q hq;exact⟨by rw[Al (nT q hq)];exact f0,f1,f2,f3,f4,f5⟩
 done:=by
  intro X hP hw hK hc i pins s σ H E I hf st hg;subst hP hw hK;obtain⟨nd,na,nb⟩:=O;simp only[List.nodup_cons,List.mem_cons,List.not_mem_nil,or_false,not_or,List.nodup_nil,and_true,not_false_eq_true] at nd na nb;obtain⟨⟨n1,n2,n3,n4⟩,⟨n5,n6,n7⟩,⟨n8,n9⟩,n10⟩:=nd;obtain⟨a1,a2,a3,a4,a5⟩:=na;obtain⟨b1,b2,b3,b4,b5⟩:=nb;obtain⟨xs,ys,hqa,hqb,hst⟩:=hg;obtain⟨its,rv,p,hz⟩:=I.tuple hqa;obtain⟨jts,rw',p',hz'⟩:=I.tuple hqb;have hd:X.A.in1.handled=none:=by simpa using I.ok.hd hc
  have D1:=Kp (prog:=X.prog) (w:=X.w) hd i1 a a4 its.toArray;have D2:=Kp (prog:=X.prog) (w:=X.w) hd i2 b b5 jts.toArray;obtain⟨h1,h2,⟨u0,v0,h3⟩,h4,h5⟩:=st;have hT:s.TypeIs (.ref c) "zip":=⟨_,h1,rfl⟩;have hxl:=rv.length;have hyl:=rw'.length;unfold pyNext;rcases hst with hst|⟨hlt,hst⟩
  . have hsz:its.toArray.size=i:=by rw[A0N];omega
    rw[hsz] at D1;refine wpAny_bind (wpAny_attempt (wpAny_callSpecial?_slot (name:=Str.ofString "__next__") hT F.slot_zip_next (wpAny_call_entry F.slot_zip_next hT F.entry_zip_next (Ve D1 h1 h2 ⟨h4,p⟩ (by simp[n3,Ne.symm a1]) (Ne.symm n3) λg e kp he=>?_) (F.args_zip_next_1 _))));refine A00 (A46 (T:="StopIteration") (b:=true) he isSubtype_stop ?_);exact wpAny_pure ⟨rfl,I.turnedL (t':=s.toks) (ch:=[c,TI,TO,i1,i2]) (λq o hq e=>kp q o (λz=>hq (by simp[z])) (λz=>hq (by simp[z])) e) hf⟩
  have hsz:jts.toArray.size=i:=by rw[A0N];omega
  have hsx:i<its.toArray.size:=by rw[A0N];omega
  subst hsz;refine wpAny_bind (wpAny_attempt (wpAny_callSpecial?_slot (name:=Str.ofString "__next__") hT F.slot_zip_next (wpAny_call_entry F.slot_zip_next hT F.entry_zip_next (zipN D1 D2 hsx h1 h2 h3 ⟨h4,p⟩ ⟨h5,p'⟩ (by simp[n3,Ne.symm a1]) (by simp[n4,Ne.symm b1]) (by simp[n9,Ne.symm b3]) (by simp[n10,Ne.symm b4]) (Ne.symm n3) (Ne.symm n4) (Ne.symm n2) n8 λg tk e kp he=>?_) (F.args_zip_next_1 _))));refine A00 (A46 (T:="StopIteration") (b:=true) he isSubtype_stop ?_);exact wpAny_pure ⟨rfl,I.turnedL (t':=tk) (ch:=[c,TI,TO,i1,i2]) (λq o hq e=>kp q o (λz=>hq (by simp[z])) (λz=>hq (by simp[z])) (λz=>hq (by simp[z])) (λz=>hq (by simp[z])) e) hf⟩
 self:=by intro A i s Q E st hQ;exact wpAny_pyIter_zip st.1 hQ
section
variable {X:Cx}{K:W.Frag}
def ak7 (K:W.Frag)(vs:List V)(H:Hp)(R:It->Hp->Prop):Prop:=∃ a b xs ys,vs=[.ref a,.ref b]/\SqT K H a xs/\SqT K H b ys/\R (Itz K a b) H
def ar0 (K:W.Frag)(ta:TA):TI:=fun σ H R=>ta σ H λvs H1=>ak7 K vs H1 R
theorem R3 (m a b:Nat)(ha:a<m)(hb:b<m):Ye (m+4) (m+2) (m+3) m (m+1) a b:=by
 have nn:([m+4,m+2,m+3,m,m+1]:List Nat).Nodup:=by simp only[List.nodup_cons,List.mem_cons,List.not_mem_nil,or_false,not_or,List.nodup_nil,and_true,not_false_eq_true];omega
 have out:∀ c:Nat,c<m->c∉([m+4,m+2,m+3,m,m+1]:List Nat):=λc hc=>by simp only[List.mem_cons,List.not_mem_nil,or_false,not_or];omega
 exact⟨nn,out a ha,out b hb⟩
theorem Yq {ea eb:Expr}{ta:TA}{p pos:Pos}{elts:List Expr}{ek:Nat}{epos:Pos}(hg:Gl X "zip")(hm:X.mg "zip" = none)(ha:PA X [ea,eb] ta)(hK:X.K=K:=by ac_nf)
  (hs2:starEach [ea,eb] X.env=(false,eval ea X.env) :: starEach [eb] X.env:=by ac_nf) (hpl:(backTo pos (starEach [eb] X.env)).any (·.1)=false:=by ac_nf) :
  PI X (.Tuple elts ek epos) (.Call (.Name "zip" p) [ea,eb] [] pos) (ar0 K ta):=by
 subst hK;intro pins s σ H R I h;refine Call_ (Hr I hg hm PyProof.Rows.Boot.«zip» (A22 (thn (ha pos pins s σ H _ I h) λus s1 ⟨vs,H1,I1,r1,q1⟩=>?_) hs2 hpl));obtain⟨a,b,xs,ys,rfl,hA,hB,q⟩:=q1;obtain⟨u1,u2,rfl,ra,rb⟩:=Vals.two r1
 cases ra
 cases rb;obtain⟨ks,rk,hta,_⟩:=I1.tuple hA;obtain⟨vs,rv,htb,_⟩:=I1.tuple hB;have hal:a<s1.heap.objs.size:=let ⟨_,q,_⟩:=hta;A07 q;have hbl:b<s1.heap.objs.size:=let ⟨_,q,_⟩:=htb;A07 q;refine Rh hta htb λg g5 g3 g4 g1 g2 z5 kp=>?_;refine wpAny_pyIter_zip g5 ?_;refine⟨s1.heap.objs.size+4,_,_,_,H1,rfl,I1.kept (t':=s1.toks) kp,Wa (s1.heap.objs.size+4) (s1.heap.objs.size+2) (s1.heap.objs.size+3) s1.heap.objs.size (s1.heap.objs.size+1) a b (R3 _ _ _ hal hbl),⟨g5,g3,⟨_,_,g4⟩,⟨_,g1,rfl,rfl⟩,⟨_,g2,rfl,rfl⟩⟩,λc hc=>?_,q⟩
 have hc':s1.heap.objs.size<=c:=by
  simp only[List.mem_cons,List.not_mem_nil,or_false] at hc;rcases hc with rfl|rfl|rfl|rfl|rfl
  . exact Nat.le_add_right _ _
  . exact Nat.le_add_right _ _
  . exact Nat.le_add_right _ _
  . exact A0A _
  exact A3C _
 exact I1.fpOk hc' (I1.hok.fresh hc')
end
section
variable {K:W.Frag}{σ:St}{H:Hp}{Q:VK}
theorem Yl {ts:TA}{R:It->Hp->Prop}(k:ts σ H λvs H1=>ak7 K vs H1 R):ar0 K ts σ H R:=k
theorem Ws {xs ys:List V}{f:Nat->Bool}{a b:Addr}{te:TE}{js:List Nat}(hA:SqT K H a xs)(hB:SqT K H b ys)(hz:xs.length<=1000000)
  (hs:∀(i:Nat) x y H1 (R:VK),xs[i]? = some x->ys[i]? = some y->Same H H1->(∀ H2,Same H1 H2->R (.bl (f i)) H2)->te (((List.replicate 2 none++N4 σ js).set 0 (some x)).set 1 (some y)) H1 R)
  (hd:∀ p H',H p=none->Same H H'->H' p=some (.lst (((List.range (min xs.length ys.length)).map f).map V.bl))->Q (.ref p) H') :
  ak7 K [.ref a,.ref b] H λJ H1=>Og 2 js (a73 K 2 (O1 (Hf 0) (O1 (Hf 1) ah4))) Uv te σ J H1 Q:=by
 refine⟨a,b,xs,ys,rfl,hA,hB,λp hp=>⟨λi m H'=>m=min xs.length ys.length-i/\i<=min xs.length ys.length/\Same H H'/\H' p=some (.lst (((List.range i).map f).map V.bl)),⟨min xs.length ys.length,by simp,Nat.zero_le _,Same.upd hp,Aa⟩,?_⟩⟩;rintro i m H' ⟨rfl,hi,e,hp'⟩;have ga:=e.seqT hA;have gb:=e.seqT hB
 by_cases hlt:i<min xs.length ys.length
 . have hx:xs[i]? = some xs[i]:=A03 (by omega);have hy:ys[i]? = some ys[i]:=A03 (by omega);refine .inr ⟨⟨_,_,_,_,ga,gb,hx,hy⟩,λH2=>i+1<=min xs.length ys.length/\Same H H2/\H2 p=some (.lst (((List.range (i+1)).map f).map V.bl)),λH2 hN=>⟨min xs.length ys.length-(i+1),by omega,rfl,hN.1,hN.2.1,hN.2.2⟩,λv H2 y=>?_⟩;obtain⟨t,x,y,ht,rfl,rfl,hx',hy'⟩:=y;have hxx:=hx' _ ga;have hyy:=hy' _ gb;refine⟨t,_,rfl,SqT.of Aa,rfl,x,[y],rfl,y,[],rfl,rfl,?_⟩;refine hs i x y _ _ hxx hyy (e.trans (Same.upd ht)) λH3 e3=>?_;have h3p:H3 p=some (.lst (((List.range i).map f).map V.bl)):=e3 _ _ (Same.upd ht _ _ hp');refine⟨_,h3p,by rw[A05,A05,A3V,A11];omega,hlt,((e.trans (Same.upd ht)).trans e3).off hp ExtBut.upd,?_⟩;rw[Aa,List.range_succ,A19,A19];rfl
 have hin:i=min xs.length ys.length:=by omega
 subst hin;exact .inl ⟨⟨_,_,ga,gb,by omega⟩,hd p H' hp e hp'⟩
theorem a14 {xs ys:List V}{a b:Addr}{n m:Nat}{tb:TS}{D:Ends}(hA:SqT K H a xs)(hB:SqT K H b ys)(Pv:Nat->St->Hp->Prop)(h0:Pv 0 σ H)(hG:∀ i σ' H',Pv i σ' H'->SqT K H' a xs/\SqT K H' b ys)
  (hs:∀ i x y σ' H' H2,xs[i]? = some x->ys[i]? = some y->Pv i σ' H'->Same H' H2->tb {D with nx:=Pv (i+1),ct:=Pv (i+1),bk:=D.nx} ((σ'.set n (some x)).set m (some y)) H2) (hd:∀ σ' H',Pv (min xs.length ys.length) σ' H'->D.nx σ' H') :
  ak7 K [.ref a,.ref b] H λJ H1=>a25 (a73 K 2 (O1 (Hf n) (O1 (Hf m) ah4))) tb D σ J H1:=by
 refine⟨a,b,xs,ys,rfl,hA,hB,λi k σ' H'=>k=min xs.length ys.length-i/\i<=min xs.length ys.length/\Pv i σ' H',⟨_,rfl,A2R _,h0⟩,?_⟩;rintro i k σ' H' ⟨rfl,hi,p⟩;obtain⟨ga,gb⟩:=hG i σ' H' p
 by_cases hlt:i<min xs.length ys.length
 . refine .inr ⟨⟨xs,ys,xs[i]'(by omega),ys[i]'(by omega),ga,gb,A03 _,A03 _⟩,Pv (i+1),fun σ2 H2 p2=>⟨_,by omega,rfl,hlt,p2⟩,λv H2 y=>?_⟩;obtain⟨t,x,y,ht,rfl,rfl,hx,hy⟩:=y;exact⟨t,_,rfl,SqT.of Aa,rfl,x,[y],rfl,y,[],rfl,rfl,hs i x y σ' H' _ (hx xs ga) (hy ys gb) p (Same.upd ht)⟩
 have e:i=min xs.length ys.length:=by omega
 subst e;exact .inl ⟨⟨xs,ys,ga,gb,by omega⟩,hd σ' H' p⟩
end
section
variable {X:Cx}{K:W.Frag}{H:Hp}{Q:VK}
end
section
variable {X:Cx}{K:W.Frag}
end
section
variable {α:Type}[DecidableEq α]
end
section
variable {α:Type} [DecidableEq α]
theorem a21 {ld:List (α×α)}(h:(ld.map (·.1)).Nodup):∀ {k x y:α},(k,x)∈ld->(k,y)∈ld->x=y:=by
 induction ld with
 |nil=>intro k x y h;cases h
 |cons p ld ih=>
   rw[A0I] at h;obtain⟨h1,h2⟩:=A0T.mp h;intro k x y hx hy;rcases A0D.mp hx with e1|hx
   . rcases A0D.mp hy with e2|hy
     . have:=e1.trans e2.symm;injection this
     exact absurd (A09.mpr ⟨_,hy,by rw[<- e1]⟩) h1
   rcases A0D.mp hy with e2|hy
   . exact absurd (A09.mpr ⟨_,hx,by rw[<- e2]⟩) h1
   exact ih h2 hx hy
end
structure KeepF (as:List Addr)(L Tr:Addr)(H H':Hp):Prop where
 old:∀ b o,b∉as->b≠L->b≠Tr->H b=some o->H' b=some o
 rows:∀ a∈as,∀ u,Rd H a u->Rd H' a u
 frz:∀ b o u,b≠L->b≠Tr->H b=some (.frz o u)->H' b=some (.frz o u)
theorem KeepF.refl (as:List Addr)(L Tr:Addr)(H:Hp):KeepF as L Tr H H:=⟨λ_ _ _ _ _ h=>h,λ_ _ _ h=>h,λ_ _ _ _ _ h=>h⟩
theorem KeepF.trans {as:List Addr}{L Tr:Addr}{H H1 H2:Hp}(a:KeepF as L Tr H H1)(b:KeepF as L Tr H1 H2):KeepF as L Tr H H2:=⟨λc o n n1 n2 h=>b.old c o n n1 n2 (a.old c o n n1 n2 h),λc hc u h=>b.rows c hc u (a.rows c hc u h),λc o u n1 n2 h=>b.frz c o u n1 n2 (a.frz c o u n1 n2 h)⟩
theorem KeepF.rd {as:List Addr}{L Tr:Addr}{H H':Hp}(k:KeepF as L Tr H H'){a:Addr}{u:HO}(n1:a≠L)(n2:a≠Tr)(h:Rd H a u):Rd H' a u:=by
 by_cases ha:a∈as
 . exact k.rows a ha u h
 rcases h with h|⟨o,h⟩
 . exact .inl (k.old _ _ ha n1 n2 h)
 exact .inr ⟨o,k.old _ _ ha n1 n2 h⟩
section
variable {α:Type}[DecidableEq α]
inductive Chf (fo:List (α×α)):α->List α->Prop
 |stop {x:α}:(∀ p∈fo,p.1≠x)->Chf fo x [x]
 |go {x y:α} {r:List α}:(x,y)∈fo->Chf fo y r->Chf fo x (x :: r)
theorem Chf.head {fo:List (α×α)}{x:α}{r:List α}(h:Chf fo x r):∃ t,r=x :: t:=by
 cases h with
 |stop _=>exact⟨[],rfl⟩
 |go _ _=>exact⟨_,rfl⟩
theorem Chf.next {fo:List (α×α)}(hk:(fo.map (·.1)).Nodup){a:α}{r:List α}(h:Chf fo a r):∀ {p x:α},p∈r->(p,x)∈fo->x∈r:=by
 induction h with
 |stop hs=>intro p x hp hx;rw[A12.mp hp] at hx;exact absurd rfl (hs _ hx)
 |@go a y r hay hr ih=>
   intro p x hp hx;rcases A0D.mp hp with rfl|hp
   . rw[a21 hk hx hay];obtain⟨t,rfl⟩:=hr.head;exact .tail _ (.head _)
   exact .tail _ (ih hp hx)
theorem Chf.mem {fo:List (α×α)}{P:α->Prop}(hf:∀ p∈fo,P p.2){a:α}{r:List α}(h:Chf fo a r)(ha:P a):∀ x∈r,P x:=by
 induction h with
 |stop _=>intro x hx;rw[A12.mp hx];exact ha
 |@go a y r hay hr ih=>
   intro x hx;rcases A0D.mp hx with rfl|hx
   . exact ha
   exact ih (hf _ hay) x hx
end
section
variable {X:Cx}{pins:List (Addr×Obj)}{σ:List (Option V)}{H:Hp}{s:Shared}{h':Heap}
variable {K:W.Frag}
end
section
variable {α:Type}[DecidableEq α]
end
section
variable {α:Type}[DecidableEq α]
variable {β:Type}[DecidableEq β]
end
section
variable {X:Cx}{k:Nat}{x:Str}{ps:List Str}{sp:Sp}{e:Expr}{es:List Expr}{t:TA}{p pos:Pos}{E:St->XK}
end
section
variable {X:Cx}{pins:List (Addr×Obj)}
end
section
variable {α:Type}[DecidableEq α]
end
section
variable {ns ns':List Str}{ps ps':List (Str×Str)}
structure Made (ns:List Str)(ps:List (Str×Str))(ns':List Str)(ps' qs:List (Str×Str))(o:Bool):Prop where
 half:HalfW (ns++ns') qs
 le:qs.length<=60
 h1:HalfW ns ps
 h2:HalfW ns' ps'
 l:∀ x∈ns,∀ y∈ns,Av qs x y=Av ps x y
 r:∀ x∈ns',∀ y∈ns',Av qs x y=Av ps' x y
 b:∀ x∈ns,∀ y∈ns',Av qs x y=o/\Av qs y x=false
variable {qs:List (Str×Str)}
theorem Made.cl {o:Bool}(m:Made ns ps ns' ps' qs o):cnt (Av qs) ns=cnt (Av ps) ns:=G3 _ rfl m.h1.nd m.l
end
structure LftF (v:Value)(fs:List Addr)(a:Addr)(oe:Obj)(old:List Addr)(h h':Heap):Prop where
 keep:∀ b o,b∉fs->b≠a->b∉old->h.get? b=some o->h'.get? b=some o
 slot:∀ b o,b∈fs->h.get? b=some o->∃ sl,h'.get? b=some {o with slots:=sl}
 there:∀ b o,b∉old->h.get? b=some o->∃ o',h'.get? b=some o'
 tr:∃ oe' vs T oT ts,h'.get? a=some oe'/\oe'.cls=oe.cls/\oe'.dict=oe.dict/\oe'.slots=oe.slots/\oe'.data = .fields vs/\vs[1]? = some (.ref T)/\T≠a/\h.objs.size<=T/\h'.get? T=some oT/\oT.data = .fields ts/\ts[3]? = some v
 sz:h.objs.size<=h'.objs.size
section
variable {M:Model}{A:Around}{E:Value->Shared->Prop}{s:Shared}{base:Heap}{env:Env}{outer:List Env}{L a:Addr}{oe:Obj}{vs:Array Value}{Q:Unit->Shared->Prop}
end
section
variable {P:Program}{w:World}{fs:List Addr}{a C:Addr}{od:Option Addr}{oe:Obj}{old:List Addr}{h h':Heap}{H:Hp}{n:Bool}
theorem LftF.hok {v3:Value}(l:LftF v3 fs a oe old h h')(ok:HOk P w H h)(he:h.get? a=some oe)(ha:H a=some (exG n a C od))(hfs:∀ b∈fs,H b=none)(hold:∀ b∈old,H b=none):HOk P w (upd H a (exG false a C od)) h':=λb u q=>by
 have hu:∀ c z,H c=some z->c≠a->upd H a (exG false a C od) c=some z:=λc z r ne=>by rw[Al ne];exact r
 by_cases hb:b=a
 . subst hb;rw[Aa] at q;cases q;obtain⟨vs,sl,e1,_⟩:=exG_ok.mp (ok b _ ha);rw[he] at e1;cases e1;obtain⟨oe',us,T,oT,ts,q1,q2,q3,q4,q5,_⟩:=l.tr;obtain⟨c,d,dt,s4⟩:=oe';dsimp only at q2 q3 q4 q5;subst q2 q3 q4 q5;exact exG_ok.mpr ⟨us,_,q1,λz=>Bool.noConfusion z⟩
 rw[Al hb] at q;refine(ok b u q).stay (λc v hc r=>?_) (λc r=>hu c _ r λz=>?_) λc xs r=>hu c _ r λz=>?_
 . have hcn:∃ z,H c=some z:=by
    rcases hc with hc|hc
    . exact⟨u,hc ▸ q⟩
    exact⟨_,hc⟩
   obtain⟨z,hz⟩:=hcn;refine l.keep c v (λm=>by rw[hfs c m] at hz;cases hz) (λe=>?_) (λm=>by rw[hold c m] at hz;cases hz) r;subst e;rcases hc with hc|hc
   . exact hb hc.symm
   rw[ha] at hc;cases hc
 . rw[z,ha] at r;cases r
 rw[z,ha] at r;cases r
end
section
variable {P:Program}{w:World}{K:W.Frag}{mg:Str->Option Value}{base:Heap}{N:List Str}{qual:Str}{scope:Scope}{f:Addr}{cd:Value}{A:Around}{outer:List Env}{s₀:Shared}{H₀:Hp}{E:XK}
end
structure KpF (fs:List Addr)(a:Addr)(old:List Addr)(h h':Heap):Prop where
 keep:∀ b o,b∉fs->b≠a->b∉old->h.get? b=some o->h'.get? b=some o
 slot:∀ b o,b∈fs->h.get? b=some o->∃ sl,h'.get? b=some {o with slots:=sl}
 there:∀ b o,b∉old->h.get? b=some o->∃ o',h'.get? b=some o'
theorem LftF.kp {v:Value}{fs:List Addr}{a:Addr}{oe:Obj}{old:List Addr}{h h':Heap}(l:LftF v fs a oe old h h'):KpF fs a old h h':=⟨l.keep,l.slot,l.there⟩
theorem KpF.trans {fs:List Addr}{a:Addr}{S T:List Addr}{h h1 h2:Heap}(k:KpF fs a S h h1)(m:KpF fs a T h1 h2):KpF fs a (S++T) h h2:=by
 refine⟨λb o hb ha hs q=>m.keep b o hb ha (λz=>hs (A0K _ z)) (k.keep b o hb ha (λz=>hs (A0M _ z)) q),λb o hb q=>?_,λb o hs q=>?_⟩
 . obtain⟨sl,z⟩:=k.slot b o hb q;obtain⟨sl2,z2⟩:=m.slot b _ hb z;exact⟨sl2,z2⟩
 obtain⟨o1,z⟩:=k.there b o (λz=>hs (A0M _ z)) q;exact m.there b o1 (λz=>hs (A0K _ z)) z
section
variable {P:Program}{w:World}{K:W.Frag}{mg:Str->Option Value}{base:Heap}{N:List Str}{qual:Str}{scope:Scope}{f:Addr}{cd:Value}{A:Around}{outer:List Env}{s₀:Shared}{H₀:Hp}{E:XK}
end
section
variable {X:Cx}{scope:Scope}{xs fr:List Str}{pins:List (Addr×Obj)}{σ:St}{H:Hp}{s:Shared}{js:List Nat}{fp:List Addr}
end
theorem Asc.left {a b:Str}(h:Asc (a++b)):Asc a:=λc hc=>h c (by show c∈(a.cps++b.cps).toList;rw[A4W];exact A0M _ hc)
theorem Asc.right {a b:Str}(h:Asc (a++b)):Asc b:=λc hc=>h c (by show c∈(a.cps++b.cps).toList;rw[A4W];exact A0K _ hc)
section
variable {X:Cx}{k:Nat}{C:Addr}{m:Str}{ps:List Str}{sp:Sp}{e o:Expr}{es:List Expr}{ta:TE}{t:TA}{p pos apos:Pos}{E:XK}
end
section
variable {σ:St}{H:Hp}{Q:VK}{C:Addr}{m:Str}{sp:Sp}{ta:TE}{t:TA}{E:XK}
end
structure RoomH (k:Nat)(A:Around):Prop where
 dp:A.depth+3*k+5<recursionLimit
 un:A.units+16*k+200<cLine
 gd:A.guards=some []
theorem RoomH.mono {j k:Nat}{A:Around}(r:RoomH k A)(h:j<=k):RoomH j A:=⟨by have:=r.dp;omega,by have:=r.un;omega,r.gd⟩
theorem RoomH.deeper {k:Nat}{A:Around}(r:RoomH (k+1) A)(env:Env):RoomH k (A.deeper env):=
 ⟨by have:=r.dp;show A.depth+1+3*k+5<_;omega,by have:=r.un;show A.units+3+16*k+200<_;omega,r.gd⟩
section
variable {P:Program}{w:World}{K:W.Frag}{mg:Str->Option Value}{base:Heap}
end
section
variable {X:Cx}{k:Nat}{x:Str}{ps:List Str}{sp:Sp}{e:Expr}{es:List Expr}{t:TA}{p pos:Pos}
end
section
variable {X:Cx}
end
structure NamesZ (ns:List Str):Prop where
 nm:Names ns
 zz:("zzz":Str)∉ns
theorem NamesZ.perm {ns ms:List Str}(h:NamesZ ns)(p:ms.Perm ns):NamesZ ms:=⟨h.nm.perm p,λq=>h.zz (p.mem_iff.mp q)⟩
theorem NamesZ.sublist {ns ms:List Str}(h:NamesZ ns)(p:ms.Sublist ns):NamesZ ms:=⟨h.nm.sublist p,λq=>h.zz (p.subset q)⟩
structure NamesP (ns:List Str):Prop where
 nm:Names ns
 zz:("spare":Str)∉ns
theorem NamesP.perm {ns ms:List Str}(h:NamesP ns)(p:ms.Perm ns):NamesP ms:=⟨h.nm.perm p,λq=>h.zz (p.mem_iff.mp q)⟩
theorem NamesP.sublist {ns ms:List Str}(h:NamesP ns)(p:ms.Sublist ns):NamesP ms:=⟨h.nm.sublist p,λq=>h.zz (p.subset q)⟩
section
variable {α:Type}[DecidableEq α]{b:α->α->Bool}
def Grow (b:α->α->Bool)(R:List α->Prop):List (List α)->List (List α)->Prop
 |_,[]=>True
 |T,M :: B=>(∀ x∈frF b M,Ar M x∈T)/\(R M\/∃ N∈B,∃ x∈frF b N,M=Ar N x)/\Grow b R (T++[M]) B
theorem Grow.mono {R R':List α->Prop}(h:∀ M,R M->R' M):∀ {T A:List (List α)},Grow b R T A->Grow b R' T A
 |_,[],_=>trivial
 |T,M :: B,⟨h1,h2,h3⟩=>⟨h1,h2.imp (h M) id,Grow.mono h h3⟩
theorem Grow.app {R:List α->Prop}:∀ {T A B:List (List α)},Grow b R T A->Grow b R (T++A) B->Grow b R T (A++B)
 |T,[],B,_,h=>by simpa using h
 |T,M :: A,B,⟨h1,h2,h3⟩,h=>⟨h1,h2.imp id (λ⟨N,hN,r⟩=>⟨N,List.mem_append_left _ hN,r⟩),Grow.app h3 (by simpa using h)⟩
theorem Grow.at {R:List α->Prop}:∀ {T A D:List (List α)} {M:List α},Grow b R T (A++M :: D)->(∀ x∈frF b M,Ar M x∈T++A)/\(R M\/∃ N∈D,∃ x∈frF b N,M=Ar N x)
 |T,[],D,M,⟨h1,h2,h3⟩=>⟨by simpa using h1,h2⟩
 |T,N :: A,D,M,⟨h1,h2,h3⟩=>by have:=Grow.at (T:=T++[N]) (A:=A) h3;simpa using this
end
def ind (L:List Str):List Str->Nat:=λM=>if M=L then 1 else 0
theorem a51 {ns:List Str}{p q:Str->Bool}(h:ns.filter p=ns.filter q):E4 ns p=E4 ns q:=Kg λx hx=>by
 have h1:x∈ns.filter p↔x∈ns.filter q:=by rw[h]
 rw[A13,A13] at h1
 cases hp:p x<;>cases hq:q x<;>simp_all
theorem Sd {ns:List Str}{p q:Str->Bool}(h:E4 ns p=E4 ns q):ns.filter p=ns.filter q:=A3E λx hx=>Ik h x hx
theorem Qj {ns:List Str}{F G:List Str->Nat}{ct:List ((Str->Bool)×Nat)}(h:∀ e∈ct,F (ns.filter e.1)=G (ns.filter e.1)):Ha ns F ct=Ha ns G ct:=by unfold Ha;congr 1;exact A14 λe he=>by rw[h e he]
def M2 (ns:List Str)(ct:List ((Str->Bool)×Nat)):List (List Str):=ct.map λe=>ns.filter e.1
theorem com_keys {ns:List Str}{ct:List ((Str->Bool)×Nat)}{q:Str->Bool}:(Sum.inl ((E4 ns q:Nat):Int):Key)∈(aj9 ns ct).map (·.1)↔ns.filter q∈M2 ns ct:=by
 unfold aj9 M2;rw[A2F,A09,A09];constructor
 . rintro⟨e,he,h⟩;refine⟨e,he,Sd ?_⟩;have:=A4S h;omega
 rintro⟨e,he,h⟩;exact ⟨e,he,by show(Sum.inl ((E4 ns e.1:Nat):Int):Key)=_;rw[a51 h]⟩
theorem U1 {ns:List Str}{F F':List Str->Nat}{L:List Str}(h:∀ M,M≠L->F M=F' M)(ct:List ((Str->Bool)×Nat)):Ha ns F ct+Ha ns (ind L) ct*F' L=Ha ns F' ct+Ha ns (ind L) ct*F L:=by
 induction ct with
 |nil=>simp[Ha]
 |cons e r ih=>
   rw[Ji,Ji,Ji,Nat.add_mul,Nat.add_mul]
   by_cases c:ns.filter e.1=L
   . rw[c];unfold ind at ih ⊢;rw[A0Q rfl,Nat.mul_one];omega
   rw[h _ c];unfold ind at ih ⊢;rw[A0L c,Nat.mul_zero,Nat.zero_mul,Nat.zero_mul];omega
def Gg (D:List (List Str))(W loc:List Str->Nat):List Str->Nat:=λL=>if L∈D then loc L else W L
def Rec (b:Str->Str->Bool)(W loc:List Str->Nat):Prop:=∀ L,L.Nodup->W L=loc L+((frF b L).map λx=>W (Ar L x)).sum
theorem tele {b:Str->Str->Bool}{ns:List Str}{W loc:List Str->Nat}{D:List (List Str)}{M:List Str}{ct ct':List ((Str->Bool)×Nat)}{w:Nat}(hR:Rec b W loc)(hM:M.Nodup)(hD:M∉D)(hn:∀ x∈frF b M,Ar M x∉M :: D)(h0:Ha ns (Gg D W loc) ct=w)
  (h:∀ F,Ha ns F ct'=Ha ns F ct+Ha ns (ind M) ct*((frF b M).map λx=>F (Ar M x)).sum):Ha ns (Gg (M :: D) W loc) ct'=w:=by
 rw[h]
 have h1:((frF b M).map λx=>Gg (M :: D) W loc (Ar M x))=(frF b M).map λx=>W (Ar M x):=A14 λx hx=>by unfold Gg;rw[A0L (hn x hx)]
 rw[h1]
 have h2:=U1 (ns:=ns) (F:=Gg D W loc) (F':=Gg (M :: D) W loc) (L:=M) (λN hN=>by
  unfold Gg
  by_cases c:N∈D
  . rw[A0Q c,A0Q (A0C _ c)]
  rw[A0L c,A0L (λz=>by rcases A0D.mp z with z|z;exact hN z;exact c z)]) ct
 have h3:Gg (M :: D) W loc M=loc M:=by unfold Gg;rw[if_pos (List.mem_cons_self ..)]
 have h4:Gg D W loc M=W M:=by unfold Gg;rw[if_neg hD]
 rw[h3,h4,hR M hM,Nat.mul_add,h0] at h2;omega
theorem Ma {α:Type}{p:α->Bool}{l:List α}(h:∀ x∈l,p x=false):(l.filter p).length=0:=by rw[List.filter_eq_nil_iff.mpr λx hx=>by rw[h x hx];decide];rfl
def Gx (ns:List Str)(qs:List (Str->Bool)):List (List Str):=qs.map λq=>ns.filter q
theorem Em (ns:List Str)(a b:List (Str->Bool)):Gx ns (a++b)=Gx ns a++Gx ns b:=A19
def Gr (ns:List Str)(ps:List (Str×Str))(qs qs':List (Str->Bool))(q:Str->Bool):Prop:=∃ new,qs'=qs++new/\Grow (Av ps) (· = ns.filter q) (Gx ns qs) (Gx ns new)/\(∀ M∈Gx ns new,M.length<=(ns.filter q).length)/\ns.filter q∈Gx ns qs'
def GrC (ns:List Str)(ps:List (Str×Str))(qs qs':List (Str->Bool))(L:List Str)(i:Nat):Prop:=∃ new,qs'=qs++new/\Grow (Av ps) (λM=>∃ x∈frF (Av ps) L,M=Ar L x) (Gx ns qs) (Gx ns new)/\(∀ M∈Gx ns new,M.length<L.length)/\∀ x∈(frF (Av ps) L).take i,Ar L x∈Gx ns qs'
theorem GrC.step {ns:List Str}{ps:List (Str×Str)}{qs qs2 qs3:List (Str->Bool)}{L:List Str}{i:Nat}{z:Str}{q:Str->Bool}(hL:L.Nodup)(h:GrC ns ps qs qs2 L i)(hz:(frF (Av ps) L)[i]? = some z)(hq:ns.filter q=Ar L z)(g:Gr ns ps qs2 qs3 q):GrC ns ps qs qs3 L (i+1):=by
 obtain⟨n1,rfl,h1,h2,h3⟩:=h;obtain⟨n2,rfl,g1,g2,g3⟩:=g;have hzf:=A06 hz;have hzl:=Bs hL (mem_frF.mp hzf).1;rw[hq] at g1 g2 g3;refine⟨n1++n2,by rw[A1I],?_,λM hM=>?_,λx hx=>?_⟩
 . rw[Em];rw[Em] at g1;exact h1.app (g1.mono λM hM=>⟨z,hzf,hM⟩)
 . rw[Em] at hM;rcases A08.mp hM with hM|hM
   . exact h2 M hM
   have:=g2 M hM;omega
 rw[A10,hz] at hx;rcases A08.mp hx with hx|hx
 . rw[Em];exact A0M _ (h3 x hx)
 have:x=z:=by simpa using hx
 rw[this];exact g3
theorem GrC.no {ns:List Str}{ps:List (Str×Str)}{qs qs2:List (Str->Bool)}{q:Str->Bool}{i:Nat}(h:GrC ns ps qs qs2 (ns.filter q) i)(hno:ns.filter q∉Gx ns qs):ns.filter q∉Gx ns qs2:=by
 obtain⟨n1,rfl,h1,h2,h3⟩:=h;intro z;rw[Em] at z;rcases A08.mp z with z|z
 . exact hno z
 have:=h2 _ z;omega
structure WaysB (K:W.Frag)(C:Addr)(H:Hp)(p dx:Addr)(nv:V)(bd ad kd:Addr)(ns:List Str)(ps:List (Str×Str)):Prop where
 ob:H p=some (.ins C dx [("names",nv),("bits",.ref bd),("ahead",.ref ad),("full",.int ((E4 ns (λ_=>true):Nat):Int)),("known",.ref kd)])
 nm:Is K H (nmD ns) nv
 bt:H bd=some (.dK (as2 ns))
 ah:H ad=some (.dK (ahK ns ps))
theorem WaysAt.b {K:W.Frag}{C:Addr}{H:Hp}{p dx:Addr}{nv:V}{bd ad kd:Addr}{ns:List Str}{ps:List (Str×Str)}{kvs:List (Key×V)}(h:WaysAt K C H p dx nv bd ad kd ns ps kvs):WaysB K C H p dx nv bd ad kd ns ps:=⟨h.ob,h.nm,h.bt,h.ah⟩
theorem WaysB.of {K:W.Frag}{C:Addr}{H H':Hp}{p dx:Addr}{nv:V}{bd ad kd:Addr}{ns:List Str}{ps:List (Str×Str)}(h:WaysB K C H p dx nv bd ad kd ns ps)(f:Fz H H')(e:∀ b o,b=p\/b=bd\/b=ad->H b=some o->H' b=some o):WaysB K C H' p dx nv bd ad kd ns ps:=⟨e _ _ (.inl rfl) h.ob,h.nm.nm_fz f,e _ _ (.inr (.inl rfl)) h.bt,e _ _ (.inr (.inr rfl)) h.ah⟩
theorem WaysB.same {K:W.Frag}{C:Addr}{H H':Hp}{p dx:Addr}{nv:V}{bd ad kd:Addr}{ns:List Str}{ps:List (Str×Str)}(h:WaysB K C H p dx nv bd ad kd ns ps)(e:Same H H'):WaysB K C H' p dx nv bd ad kd ns ps:=h.of e.fz λb o _=>e b o
section
variable {X:Cx}{K:W.Frag}
end
section
variable {K:W.Frag}{σ:St}{H:Hp}
end
structure CmI (ns:List Str)(ps:List (Str×Str))(T D:List (List Str))(ct:List ((Str->Bool)×Nat)):Prop where
 k1:∀ L∈M2 ns ct,L∈T
 k2:ns∈M2 ns ct
 k3:∀ M∈D,∀ x∈frF (Av ps) M,Ar M x∈M2 ns ct
 sm:∀ W loc,Rec (Av ps) W loc->Ha ns (Gg D W loc) ct=W ns
structure CmJ (ns:List Str)(ps:List (Str×Str))(M:List Str)(m:Nat)(ct1 ct2:List ((Str->Bool)×Nat)):Prop where
 ks:∀ L,L∈M2 ns ct2↔L∈M2 ns ct1\/∃ x∈(frF (Av ps) M).take m,L=Ar M x
 sm:∀ F,Ha ns F ct2=Ha ns F ct1+Ha ns (ind M) ct1*(((frF (Av ps) M).take m).map λx=>F (Ar M x)).sum
theorem a61 {L:List Str}{x:Str}(h:x∈L):Ar L x≠L:=λz=>by rw[<- z] at h;exact(mem_lessF.mp h).2 rfl
theorem CmJ.same {ns:List Str}{ps:List (Str×Str)}{M:List Str}{m:Nat}{ct1 ct2:List ((Str->Bool)×Nat)}(h:CmJ ns ps M m ct1 ct2):Ha ns (ind M) ct2=Ha ns (ind M) ct1:=by
 rw[h.sm]
 have:((frF (Av ps) M).take m).map (λx=>ind M (Ar M x))=((frF (Av ps) M).take m).map λ_=>0:=A14 λx hx=>by unfold ind;rw[A0L (a61 (mem_frF.mp ((List.take_sublist _ _).subset hx)).1)]
 rw[this];generalize (frF (Av ps) M).take m=l
 have:(l.map λ_=>0).sum=0:=by
  induction l with
  |nil=>rfl
  |cons z r ih=>simpa using ih
 rw[this];omega
theorem CmJ.step {ns:List Str}{ps:List (Str×Str)}{M:List Str}{m:Nat}{ct1 ct2 ct3:List ((Str->Bool)×Nat)}{z:Str}{q:Str->Bool}(h:CmJ ns ps M m ct1 ct2)(hz:(frF (Av ps) M)[m]? = some z)(hq:ns.filter q=Ar M z)
  (g3:∀ k,k∈(aj9 ns ct3).map (·.1)↔k∈(aj9 ns ct2).map (·.1)\/k=Sum.inl ((E4 ns q:Nat):Int)) (g5:∀ F,Ha ns F ct3=Ha ns F ct2+Ha ns (ind M) ct2*F (ns.filter q)):CmJ ns ps M (m+1) ct1 ct3:=by
 refine⟨λL=>?_,λF=>?_⟩
 . have key:L∈M2 ns ct3↔L∈M2 ns ct2\/L=Ar M z:=by
    constructor
    . intro hL;obtain⟨e,he,rfl⟩:=A09.mp hL;rcases(g3 _).mp (com_keys.mpr hL) with g|g
      . exact .inl (com_keys.mp g)
      right
      rw[<- hq];exact Sd (by have:=A4S g;omega)
    rintro(hL|rfl)
    . obtain⟨e,he,rfl⟩:=A09.mp hL;exact com_keys.mp ((g3 _).mpr (.inl (com_keys.mpr hL)))
    rw[<- hq];exact com_keys.mp ((g3 _).mpr (.inr rfl))
   rw[key,h.ks,A10,hz];constructor
   . rintro((a|⟨x,hx,e⟩)|e)
     . exact .inl a
     . exact .inr ⟨x,A0M _ hx,e⟩
     exact .inr ⟨z,by simp,e⟩
   rintro(a|⟨x,hx,e⟩)
   . exact .inl (.inl a)
   rcases A08.mp hx with hx|hx
   . exact .inl (.inr ⟨x,hx,e⟩)
   have:x=z:=by simpa using hx
   exact .inr (this ▸ e)
 rw[g5,h.same,h.sm,hq,A10,hz,A19,List.sum_append,Nat.mul_add];simp;omega
theorem CmI.step {ns:List Str}{ps:List (Str×Str)}{T A D:List (List Str)}{M:List Str}{ct1 ct2:List ((Str->Bool)×Nat)}(h:CmI ns ps T D ct1)(hT:T=A++M :: D)(hn:T.Nodup)(hM:M.Nodup)(hat:∀ x∈frF (Av ps) M,Ar M x∈A)(g:CmJ ns ps M (frF (Av ps) M).length ct1 ct2):CmI ns ps T (M :: D) ct2:=by
 have g1:=g.ks;have g2:=g.sm;rw[A1E] at g1 g2;rw[hT] at hn;obtain⟨n1,n2,n3⟩:=A1A.mp hn;refine⟨λL hL=>?_,(g1 _).mpr (.inl h.k2),λN hN x hx=>?_,λW loc hR=>?_⟩
 . rcases(g1 L).mp hL with q|⟨x,hx,rfl⟩
   . exact h.k1 L q
   rw[hT];exact A0M _ (hat x hx)
 . rcases A0D.mp hN with rfl|hN
   . exact(g1 _).mpr (.inr ⟨x,hx,rfl⟩)
   exact(g1 _).mpr (.inl (h.k3 N hN x hx))
 exact tele hR hM (A0T.mp n2).1 (λx hx z=>n3 _ (hat x hx) _ z rfl) (h.sm W loc hR) g2
def wof (b:Str->Str->Bool)(loc:List Str->Nat):Nat->List Str->Nat
 |0,L=>loc L
 |n+1,L=>loc L+((frF b L).map λx=>wof b loc n (Ar L x)).sum
theorem a17 {b:Str->Str->Bool}(loc:List Str->Nat):Rec b (λL=>wof b loc L.length L) loc:=λL hn=>by
 show wof b loc L.length L=_
 cases hl:L.length with
 |zero=>have:L=[]:=A0Y.mp hl;subst this;rfl
 |succ n=>show loc L+_=loc L+_;congr 2;refine A14 λx hx=>?_;have:=Bs hn (mem_frF.mp hx).1;show _=wof b loc (Ar L x).length (Ar L x);rw[show(Ar L x).length=n by omega]
theorem Ks {α:Type}{f:α->Nat}{c:Nat}:∀ {l:List α},(∀ x∈l,f x<=c)->(l.map f).sum<=l.length*c
 | [],_=>by simp
 |x :: r,h=>by have h1:=h x (A0J ..);have h2:=Ks (l:=r) λy hy=>h y (A0C _ hy);rw[A0I,A2J,A0F,Nat.add_mul];omega
theorem Jt {α:Type}{f:α->Nat}:∀ {l:List α},(∀ x∈l,f x=0)->(l.map f).sum=0
 | [],_=>rfl
 |x :: r,h=>by rw[A0I,A2J,h x (A0J ..),Jt (l:=r) λy hy=>h y (A0C _ hy)]
theorem Xu {b:Str->Str->Bool}{L0:List Str}:∀(n:Nat) (L:List Str),L.Nodup->L.length=n->wof b (ind L0) n L<=fac n/\(n<L0.length->wof b (ind L0) n L=0)
 |0,L,_,hl=>by
   have:L=[]:=A0Y.mp hl;subst this;refine⟨?_,λh=>?_⟩
   . show ind L0 []<=1;unfold ind
     split<;>omega
   show ind L0 []=0;unfold ind;rw[A0L (λz:([]:List Str)=L0=>by rw[<- z] at h;cases h)]
 |n+1,L,hn,hl=>by
   have sub:∀ x∈frF b L,wof b (ind L0) n (Ar L x)<=fac n/\(n<L0.length->wof b (ind L0) n (Ar L x)=0):=λx hx=>Xu n (Ar L x) (Bx hn x) (by have:=Bs hn (mem_frF.mp hx).1;omega)
   have hfl:(frF b L).length<=n+1:=hl ▸ A2V _ _;refine⟨?_,λh=>?_⟩
   . show ind L0 L+((frF b L).map λx=>wof b (ind L0) n (Ar L x)).sum<=fac (n+1);rw[show fac (n+1)=(n+1)*fac n by simp[fac,Nat.mul_comm]]
     by_cases c:L=L0
     . have hz:((frF b L).map λx=>wof b (ind L0) n (Ar L x)).sum=0:=Jt λx hx=>(sub x hx).2 (by rw[<- c,hl];omega);rw[hz]
       have:1<=fac n:=by
        clear hz sub hfl hl c
        induction n with
        |zero=>exact A0A _
        |succ n ih=>rw[show fac (n+1)=(n+1)*fac n by simp[fac,Nat.mul_comm]];exact Nat.le_trans ih (Nat.le_mul_of_pos_left _ (by omega))
       unfold ind;rw[A0Q c];have:=Nat.le_mul_of_pos_left (fac n) (show 0<n+1 by omega);omega
     have h1:=Ks λx hx=>(sub x hx).1;have h2:=Nat.mul_le_mul_right (fac n) hfl;unfold ind at h1 ⊢;rw[A0L c];omega
   show ind L0 L+_=0;rw[Jt λx hx=>(sub x hx).2 (by omega)];unfold ind;rw[A0L (λz=>by rw[<- z] at h;omega)]
theorem CmI.sum {ns:List Str}{ps:List (Str×Str)}{T:List (List Str)}{ct:List ((Str->Bool)×Nat)}(h:CmI ns ps T T ct){W loc:List Str->Nat}(hR:Rec (Av ps) W loc):Ha ns loc ct=W ns:=by rw[<- h.sm W loc hR];refine Qj λe he=>?_;unfold Gg;rw[A0Q (h.k1 _ (A09.mpr ⟨e,he,rfl⟩))]
theorem CmI.le {ns:List Str}{ps:List (Str×Str)}{T:List (List Str)}{ct:List ((Str->Bool)×Nat)}(h:CmI ns ps T T ct)(hn:ns.Nodup)(h10:ns.length<=10)(L:List Str):Ha ns (ind L) ct<=3628800:=by rw[h.sum (a17 (ind L))];exact A0P (Xu _ ns hn rfl).1 (A0P (ab4 h10) nofun)
def a76 (ns:List Str)(g:Str->Nat):List (Key×V):=ns.map λy=>((Sum.inr y:Key),V.int ((g y:Nat):Int))
structure TabN (H:Hp)(r:Addr)(ns:List Str)(as:List Addr)(f:Str->Str->Nat):Prop where
 len:as.length=ns.length
 nd:as.Nodup
 no:r∉as
 top:H r=some (.dK (Ep ns as))
 row:∀(j:Nat) x a,ns[j]? = some x->as[j]? = some a->H a=some (.dK (a76 ns (f x)))
theorem TabN.of {H H':Hp}{r:Addr}{ns:List Str}{as:List Addr}{f:Str->Str->Nat}(h:TabN H r ns as f)(e:∀ b o,b=r\/b∈as->H b=some o->H' b=some o):TabN H' r ns as f:=
 ⟨h.len,h.nd,h.no,e _ _ (.inl rfl) h.top,λj x a hj ha=>e _ _ (.inr (A06 ha)) (h.row j x a hj ha)⟩
theorem TabN.same {H H':Hp}{r:Addr}{ns:List Str}{as:List Addr}{f:Str->Str->Nat}(h:TabN H r ns as f)(e:Same H H'):TabN H' r ns as f:=h.of λb o _=>e b o
theorem TabN.congr {H:Hp}{r:Addr}{ns:List Str}{as:List Addr}{f g:Str->Str->Nat}(h:TabN H r ns as f)(e:∀ x∈ns,∀ y∈ns,f x y=g x y):TabN H r ns as g:=
 ⟨h.len,h.nd,h.no,h.top,λj x a hj ha=>by rw[h.row j x a hj ha];congr 2;exact A14 λy hy=>by rw[e x (A06 hj) y hy]⟩
theorem TabN.at {H:Hp}{r:Addr}{ns:List Str}{as:List Addr}{f:Str->Str->Nat}(h:TabN H r ns as f){x:Str}(hx:x∈ns):∃(j:Nat) (a:Addr),ns[j]? = some x/\as[j]? = some a:=by obtain⟨j,hj⟩:=List.mem_iff_getElem?.mp hx;have hl:=(A02.mp hj).1;exact⟨j,as[j]'(by rw[h.len];exact hl),hj,A03 _⟩
theorem Wd {ns:List Str}(hn:ns.Nodup){g:Str->Nat}{z:Str}(hz:z∈ns){m:Nat}:D9 (a76 ns g) (Sum.inr z:Key) (.int ((m:Nat):Int))=a76 ns λy=>if y=z then m else g y:=by
 unfold D9
 have hany:((a76 ns g).any λkv=>decide (kv.1=(Sum.inr z:Key)))=true:=by rw[A1D];exact⟨_,List.mem_map.mpr ⟨z,hz,rfl⟩,by simp⟩
 rw[A0Q hany];unfold a76;rw[A2F];refine A14 λy _=>?_
 by_cases c:y=z
 . subst c;simp
 have:(Sum.inr y:Key)≠Sum.inr z:=λq=>c (by injection q);simp[c,this]
theorem TabN.put {H H':Hp}{r a:Addr}{ns:List Str}{as:List Addr}{f:Str->Str->Nat}(h:TabN H r ns as f)(hn:ns.Nodup){j:Nat}{x z:Str}{m:Nat}(hj:ns[j]? = some x)(ha:as[j]? = some a)(hz:z∈ns)(e:ExtBut a H H')(h':H' a=some (.dK (D9 (a76 ns (f x)) (Sum.inr z:Key) (.int ((m:Nat):Int))))) :
  TabN H' r ns as λx' y=>if x'=x/\y=z then m else f x' y:=by
 have ham:=A06 ha;refine⟨h.len,h.nd,h.no,e _ _ (λq=>h.no (q ▸ ham)) h.top,λi x' a' hi ha'=>?_⟩
 by_cases c:i=j
 . subst c;rw[hj] at hi
   cases hi;rw[ha] at ha'
   cases ha';rw[h',Wd hn hz];congr 2;exact List.map_congr_left λy _=>by by_cases q:y=z<;>simp[q]
 have hne:a'≠a:=λq=>by subst q;obtain⟨l1,e1⟩:=A02.mp ha;obtain⟨l2,e2⟩:=A02.mp ha';exact c ((A1L h.nd).mp (e2.trans e1.symm))
 have hx:x'≠x:=λq=>by subst q;obtain⟨l1,e1⟩:=A02.mp hj;obtain⟨l2,e2⟩:=A02.mp hi;exact c ((A1L hn).mp (e2.trans e1.symm))
 rw[e _ _ hne (h.row i x' a' hi ha')];congr 2;exact List.map_congr_left λy _=>by simp[hx]
section
variable {K:W.Frag}{H H':Hp}{x:V}{ns:List Str}{σ:St}{Q:VK}
def NmS (K:W.Frag)(H:Hp)(x:V)(ns:List Str):Prop:=∃ a,x = .ref a/\(SqL K H a (ns.map V.str)\/SqT K H a (ns.map V.str))
theorem NmS.same (h:NmS K H x ns)(e:Same H H'):NmS K H' x ns:=by obtain⟨a,rfl,h⟩:=h;exact⟨a,rfl,h.imp e.seq e.seqT⟩
theorem NmS.of (h:Is K H (nmD ns) x):NmS K H x ns:=by obtain⟨a,rfl,g⟩:=h.nm;exact⟨a,rfl,.inr g⟩
def HfS (K:W.Frag)(H:Hp)(x:V)(ns:List Str)(ps:List (Str×Str)):Prop:=∃ a nv pv,x = .ref a/\SqT K H a [nv,pv]/\NmS K H nv ns/\Is K H (psD ps) pv
theorem HfS.same {ps:List (Str×Str)}(h:HfS K H x ns ps)(e:Same H H'):HfS K H' x ns ps:=by obtain⟨a,nv,pv,rfl,h1,h2,h3⟩:=h;exact⟨a,nv,pv,rfl,e.seqT h1,h2.same e,Is.mono e _ _ h3⟩
theorem HfS.of {ps:List (Str×Str)}(h:Is K H (hfD ns ps) x):HfS K H x ns ps:=by
 obtain⟨a,xs,rfl,h1,h2⟩:=Is.tup h;obtain ⟨v1,q1,q2⟩:=h2.at (i:=0) rfl;obtain⟨v2,q3,q4⟩:=h2.at (i:=1) rfl;have q5:=h2.length
 match xs,q1,q3,q5 with
 | [y1,y2],q1,q3,_=>
   cases q1
   cases q3;exact⟨a,v1,v2,rfl,h1,.of q2,q4⟩
end
theorem Hx {ns:List Str}{ps:List (Str×Str)}(h:HalfW ns ps){x y:Str}(hx:x∈ns)(hy:y∈ns)(hxy:x≠y):cnt (Av (ps++[(x,y)])) ns=0↔Av ps y x=true:=by
 constructor
 . intro g
   cases c:Av ps y x with
   |true=>rfl
   |false=>
     have c':¬ Way ps y x:=λq=>by rw[wayB_iff.mpr q] at c;cases c
     have hirr:=Ng h.irr (p:=(x,y)) (λq=>hxy q.symm) c';have:=Ld (b:=Av (ps++[(x,y)])) (λz=>Hm (hirr z)) O8 ns.length ns rfl h.nd;omega
 intro g;rw[G1 h hx hy];refine Ma λr hr=>?_;refine A0R λq=>?_;obtain⟨hp,ho⟩:=(Dt _ _ _ _ h.nd rfl).mp hr
 have h1:okR (Av (ps++[(x,y)])) r:=by
  rw[Mh h.nd (h.more hx hy).mem hp];intro p hpp;rcases A08.mp hpp with hpp|hpp
  . exact(Mh h.nd h.mem hp).mp ho p hpp
  have:p=(x,y):=by simpa using hpp
  rw[this];exact q
 have h2:r∈ext (Av (ps++[(x,y)])) ns.length ns:=(Dt _ _ _ _ h.nd rfl).mpr ⟨hp,h1⟩;have h3:=(Mh h.nd h.mem hp).mp ho
 have hlt:∀ a b,Way ps a b->r.idxOf a<r.idxOf b:=λa b g=>by
  induction g with
  |one e=>exact h3 _ e
  |cons e _ ih=>exact A4H (h3 _ e) ih
 have:=hlt y x (wayB_iff.mp g);omega
theorem Rq {ns:List Str}{ps:List (Str×Str)}(h:HalfW ns ps){x y:Str}(hx:x∈ns)(hy:y∈ns)(hxy:x≠y):(cnt (Av (ps++[(x,y)])) ns≠0/\cnt (Av (ps++[(y,x)])) ns≠0)↔unB ps x y=true:=by
 rw[Ne,Ne,Hx h hx hy hxy,Hx h hy hx hxy.symm];unfold unB
 cases Av ps x y<;>cases Av ps y x<;>simp
def crs (A B:List Str):List (Str×Str):=A.flatMap λx=>B.map λy=>(x,y)
theorem mem_crs {A B:List Str}{p:Str×Str}:p∈crs A B↔p.1∈A/\p.2∈B:=by
 unfold crs;rw[A45];constructor
 . rintro⟨x,hx,h⟩;obtain⟨y,hy,rfl⟩:=A09.mp h;exact⟨hx,hy⟩
 rintro⟨h1,h2⟩;exact⟨p.1,h1,A09.mpr ⟨p.2,h2,rfl⟩⟩
theorem Zr (A B:List Str):(crs A B).length=A.length*B.length:=by
 unfold crs
 induction A with
 |nil=>simp
 |cons a A ih=>rw[A3Z,A0H,ih,A05,A0F,Nat.succ_mul];omega
theorem V1 {A B:List Str} {pA pB:List (Str×Str)} (hA:∀ p∈pA,p.1∈A/\p.2∈A) (hB:∀ p∈pB,p.1∈B/\p.2∈B) (hd:∀ z∈A,z∉B) {x y:Str}:Way (pA++pB++crs A B) x y↔Way pA x y\/Way pB x y\/(x∈A/\y∈B):=by
 constructor
 . intro g
   induction g with
   |@one x y m=>
     rcases A08.mp m with m|m
     . rcases A08.mp m with m|m
       . exact .inl (.one m)
       exact .inr (.inl (.one m))
     exact .inr (.inr (mem_crs.mp m))
   |@cons x z y m _ ih=>
     rcases A08.mp m with m|m
     . rcases A08.mp m with m|m
       . have hz:=(hA _ m).2;rcases ih with g|g|⟨g1,g2⟩
         . exact .inl (.cons m g)
         . exact absurd (Way.mem hB g).1 (hd z hz)
         exact .inr (.inr ⟨(hA _ m).1,g2⟩)
       have hz:=(hB _ m).2;rcases ih with g|g|⟨g1,g2⟩
       . exact absurd hz (hd z (Way.mem hA g).1)
       . exact .inr (.inl (.cons m g))
       exact absurd hz (hd z g1)
     have hz:=mem_crs.mp m;rcases ih with g|g|⟨g1,g2⟩
     . exact absurd hz.2 (hd z (Way.mem hA g).1)
     . exact .inr (.inr ⟨hz.1,(Way.mem hB g).2⟩)
     exact absurd hz.2 (hd z g1)
 rintro(g|g|g)
 . exact g.mono λp hp=>A0M _ (A0M _ hp)
 . exact g.mono λp hp=>A0M _ (A0K _ hp)
 exact .one (A0K _ (mem_crs.mpr g))
structure Two (ns A B:List Str)(pA pB S:List (Str×Str)):Prop where
 nm:Names ns
 le:ns.length<=10
 pm:(A++B).Perm ns
 hA:HalfW A pA
 hB:HalfW B pB
 lA:A.length<=5
 lB:B.length<=5
 sA:pA.length<=15
 sB:pB.length<=15
 ps:S.Perm (pA++pB++crs A B)
section
variable {ns A B:List Str}{pA pB S:List (Str×Str)}
theorem Two.nd (h:Two ns A B pA pB S):(A++B).Nodup:=h.pm.nodup_iff.mpr h.nm.1
theorem Two.dj (h:Two ns A B pA pB S):∀ z∈A,z∉B:=λz h1 h2=>(A1A.mp h.nd).2.2 z h1 z h2 rfl
theorem Two.way (h:Two ns A B pA pB S){x y:Str}:Way S x y↔Way pA x y\/Way pB x y\/(x∈A/\y∈B):=by rw[<- V1 h.hA.mem h.hB.mem h.dj];exact⟨λg=>g.mono λp hp=>h.ps.mem_iff.mp hp,λg=>g.mono λp hp=>h.ps.mem_iff.mpr hp⟩
theorem Two.half (h:Two ns A B pA pB S):HalfW ns S:=by
 refine⟨h.nm.1,λp hp=>?_,λx g=>?_,A0P h.le nofun,?_⟩
 . have mA:∀ z∈A,z∈ns:=λz hz=>h.pm.mem_iff.mp (A0M _ hz);have mB:∀ z∈B,z∈ns:=λz hz=>h.pm.mem_iff.mp (A0K _ hz);rcases A08.mp (h.ps.mem_iff.mp hp) with q|q
   . rcases A08.mp q with q|q
     . exact⟨mA _ (h.hA.mem p q).1,mA _ (h.hA.mem p q).2⟩
     exact⟨mB _ (h.hB.mem p q).1,mB _ (h.hB.mem p q).2⟩
   exact⟨mA _ (mem_crs.mp q).1,mB _ (mem_crs.mp q).2⟩
 . rcases h.way.mp g with g|g|⟨g1,g2⟩
   . exact h.hA.irr x g
   . exact h.hB.irr x g
   exact h.dj x g1 g2
 rw[h.ps.length_eq,A0H,A0H,Zr];have:=h.sA;have:=h.sB;have:=Nat.mul_le_mul h.lA h.lB;omega
theorem S8 {qA qB T:List (Str×Str)}(hn:(A++B).Nodup)(hp:(A++B).Perm ns)(hA:∀ p∈qA,p.1∈A/\p.2∈A)(hB:∀ p∈qB,p.1∈B/\p.2∈B)(hT:∀ p,p∈T↔p∈qA++qB++crs A B):cnt (Av T) ns=cnt (Av qA) A*cnt (Av qB) B:=by
 obtain⟨n1,n2,n3⟩:=A1A.mp hn;have hd:∀ z∈A,z∉B:=λz h1 h2=>n3 z h1 z h2 rfl
 have hw:∀ x y,Way T x y↔Way qA x y\/Way qB x y\/(x∈A/\y∈B):=λx y=>by rw[<- V1 hA hB hd];exact⟨λg=>g.mono λp hp=>(hT p).mp hp,λg=>g.mono λp hp=>(hT p).mpr hp⟩
 rw[<- Wt (hp.nodup_iff.mp hn) hp,Me A.length rfl hn λx hx y hy=>⟨wayB_iff.mpr ((hw x y).mpr (.inr (.inr ⟨hx,hy⟩))),Hm λg=>?_⟩]
 . congr 1
   . refine G3 A.length rfl n1 λx hx y hy=>?_;rw[A1J,wayB_iff,wayB_iff,hw];constructor
     . rintro(g|g|g)
       . exact g
       . exact absurd (Way.mem hB g).1 (hd x hx)
       exact absurd g.2 (hd y hy)
     exact .inl
   refine G3 B.length rfl n2 λx hx y hy=>?_;rw[A1J,wayB_iff,wayB_iff,hw];constructor
   . rintro(g|g|g)
     . exact absurd hx (hd x (Way.mem hA g).1)
     . exact g
     exact absurd hx (hd x g.1)
   exact λg=>.inr (.inl g)
 rcases(hw y x).mp g with g|g|g
 . exact hd y (Way.mem hA g).1 hy
 . exact hd x hx (Way.mem hB g).2
 exact hd y g.1 hy
def Q1 (rows:List (List Str))(x y:Str):Nat:=(rows.filter λr=>decide (r.idxOf x<r.idxOf y)).length
def twN (A B:List Str)(pA pB:List (Str×Str))(x y:Str):Nat:=if x∈A/\y∈A then Q1 (ext (Av pA) A.length A) x y*cnt (Av pB) B else if x∈B/\y∈B then Q1 (ext (Av pB) B.length B) x y*cnt (Av pA) A else 0
theorem Two.cnt (h:Two ns A B pA pB S){x y:Str}(hs:(x∈A/\y∈A)\/(x∈B/\y∈B)):twN A B pA pB x y=L2.cnt (Av (S++[(x,y)])) ns:=by
 unfold twN;rcases hs with hs|hs
 . rw[A0Q hs];unfold Q1;rw[<- G1 h.hA hs.1 hs.2];refine(S8 h.nd h.pm (λp hp=>?_) h.hB.mem λp=>?_).symm
   . rcases A08.mp hp with hp|hp
     . exact h.hA.mem p hp
     rw[show p=(x,y) by simpa using hp];exact hs
   have:=h.ps.mem_iff (a:=p);simp only[List.mem_append,List.mem_singleton] at this ⊢;rw[this];constructor
   . rintro((q|q)|q)
     . rcases q with q|q
       . exact .inl (.inl (.inl q))
       exact .inl (.inr q)
     . exact .inr q
     exact .inl (.inl (.inr q))
   rintro(((q|q)|q)|q)
   . exact .inl (.inl (.inl q))
   . exact .inr q
   . exact .inl (.inl (.inr q))
   exact .inl (.inr q)
 rw[A0L (λq=>h.dj x q.1 hs.1),A0Q hs];unfold Q1;rw[<- G1 h.hB hs.1 hs.2,A4F];refine(S8 h.nd h.pm h.hA.mem (λp hp=>?_) λp=>?_).symm
 . rcases A08.mp hp with hp|hp
   . exact h.hB.mem p hp
   rw[show p=(x,y) by simpa using hp];exact hs
 have:=h.ps.mem_iff (a:=p);simp only[List.mem_append,List.mem_singleton] at this ⊢;rw[this];constructor
 . rintro((q|q)|q)
   . rcases q with q|q
     . exact .inl (.inl q)
     exact .inl (.inr (.inl q))
   . exact .inr q
   exact .inl (.inr (.inr q))
 rintro((q|(q|q))|q)
 . exact .inl (.inl (.inl q))
 . exact .inl (.inl (.inr q))
 . exact .inr q
 exact .inl (.inr q)
end
section
variable {prog:Program}{w:World}{A:Around}{E:Value->Shared->Prop}{s:Shared}{Q:Value->Shared->Prop}
end
section
variable {X:Cx}{pins:List (Addr×Obj)}{σ:List (Option V)}{H:Hp}{s:Shared}{h':Heap}
end
def Yi (c':Addr)(qual:Str):HO:=.ext λh=>h.CodeRec (.ref c') qual
def LamT (P:Addr)(line col:Nat)(qual:Str)(H:Hp):Prop:=H P=some (.tbl #[])\/∃ c',H P=some (.tbl #[rawInt line,rawInt col,.ref c'])/\H c'=some (Yi c' qual)
section
variable {X:Cx}{pins:List (Addr×Obj)}{σ:List (Option V)}{H:Hp}{s:Shared}{h':Heap}
end
theorem LamT.of {P:Addr}{line col:Nat}{qual:Str}{H H':Hp}(h:LamT P line col qual H)(e:∀ b,(∃ ps,H b=some (.tbl ps))\/(∃ φ,H b=some (.ext φ))->∀ o,H b=some o->H' b=some o):LamT P line col qual H':=by
 rcases h with h|⟨c',h1,h2⟩
 . exact .inl (e P (.inl ⟨_,h⟩) _ h)
 exact .inr ⟨c',e P (.inl ⟨_,h1⟩) _ h1,e c' (.inr ⟨_,h2⟩) _ h2⟩
theorem LamT.same {P:Addr}{line col:Nat}{qual:Str}{H H':Hp}(h:LamT P line col qual H)(e:Same H H'):LamT P line col qual H':=h.of λb _ o q=>e b o q
section
variable {X:Cx}{K:W.Frag}
end
def pR (f:Str->Str->Bool):List Str->List (Str×Str)
 | []=>[]
 |x :: xs=>((xs.filter λy=>f x y).map λy=>(x,y))++pR f xs
theorem ae7 (f:Str->Str->Bool):∀ ns:List Str,((List.range ns.length).flatMap λi=>((ns.drop (i+1)).filter λy=>f (ns.getD i "") y).map λy=>(ns.getD i "",y))=pR f ns
 | []=>rfl
 |x :: xs=>by rw[A0F,A4A,A3Z,List.flatMap_map];show _=_++pR f xs;rw[<- ae7 f xs];rfl
theorem Ym (ns:List Str)(ps:List (Str×Str)):unP ns ps=pR (unB ps) ns:=ae7 _ _
theorem mem_pR {f:Str->Str->Bool}{p:Str×Str}:∀ {ns:List Str},p∈pR f ns↔[p.1,p.2].Sublist ns/\f p.1 p.2=true
 | []=>by
   constructor
   . intro h;cases h
   rintro⟨h,_⟩;cases h
 |x :: xs=>by
   show p∈_++_↔_;rw[A08,mem_pR (ns:=xs),List.sublist_cons_iff,A09];constructor
   . rintro(⟨y,hy,rfl⟩|⟨h1,h2⟩)
     . obtain⟨h1,h2⟩:=A13.mp hy;exact⟨.inr ⟨[y],rfl,List.singleton_sublist.mpr h1⟩,h2⟩
     exact⟨.inl h1,h2⟩
   rintro⟨h|⟨r,e,h⟩,h2⟩
   . exact .inr ⟨h,h2⟩
   left
   cases e;exact⟨p.2,A13.mpr ⟨List.singleton_sublist.mp h,h2⟩,rfl⟩
theorem Vr {f:Str->Str->Bool}:∀ {ns:List Str},ns.Nodup->(pR f ns).Nodup
 | [],_=>.nil
 |x :: xs,hn=>by
   obtain⟨h1,h2⟩:=A0T.mp hn;show(_++_:List _).Nodup;refine A1A.mpr ⟨?_,Vr h2,λa ha b hb e=>?_⟩
   . exact List.Pairwise.map _ (λa b h z=>h (by injection z)) (h2.sublist A1W)
   subst e;obtain⟨y,_,rfl⟩:=A09.mp ha;exact h1 ((mem_pR.mp hb).1.subset (A0J ..))
theorem Rg {g:Str->Bool}{x y:Str}{ns:List Str}:[x,y].Sublist (ns.filter g)↔[x,y].Sublist ns/\g x=true/\g y=true:=by
 constructor
 . intro h;have hx:=h.subset (A0J ..);have hy:=h.subset (A0C _ (A0J ..));exact⟨h.trans A1W,(A13.mp hx).2,(A13.mp hy).2⟩
 rintro⟨h,h1,h2⟩;have:=h.filter g;rwa[A15,A0Q h1,A15,A0Q h2,List.filter_nil] at this
theorem ae9 {x y:Str}{ns:List Str}(hn:ns.Nodup)(h:[x,y].Sublist ns):x∈ns/\y∈ns/\x≠y:=by have:=hn.sublist h;refine⟨h.subset (A0J ..),h.subset (A0C _ (A0J ..)),λz=>?_⟩;rw[z] at this;simp at this
def pPt (ns X:List Str)(pX:List (Str×Str)):List (Str×Str):=pR (λx y=>decide (Q1 (ext (Av pX) X.length X) x y≠0/\Q1 (ext (Av pX) X.length X) y x≠0)) (ns.filter λz=>decide (z∈X))
section
variable {ns A B:List Str}{pA pB S:List (Str×Str)}
theorem mem_pPt {X:List Str}{pX:List (Str×Str)}{p:Str×Str}:p∈pPt ns X pX↔[p.1,p.2].Sublist ns/\p.1∈X/\p.2∈X/\Q1 (ext (Av pX) X.length X) p.1 p.2≠0/\Q1 (ext (Av pX) X.length X) p.2 p.1≠0:=by
 unfold pPt;rw[mem_pR,Rg,A2O,A2O,A2O];constructor
 . rintro⟨⟨a,b,c⟩,d⟩;exact⟨a,b,c,d⟩
 rintro⟨a,b,c,d⟩;exact⟨⟨a,b,c⟩,d⟩
theorem Two.perm (h:Two ns A B pA pB S):(pPt ns A pA++pPt ns B pB).Perm (unP ns S):=by
 have hn:=h.nm.1
 have cA:L2.cnt (Av pA) A≠0:=by have:=Ld (b:=Av pA) (Pk h.hA) O8 A.length A rfl h.hA.nd;omega
 have cB:L2.cnt (Av pB) B≠0:=by have:=Ld (b:=Av pB) (Pk h.hB) O8 B.length B rfl h.hB.nd;omega
 have tA:∀ x y,x∈A->y∈A->twN A B pA pB x y=Q1 (ext (Av pA) A.length A) x y*L2.cnt (Av pB) B:=λx y hx hy=>by unfold twN;rw[if_pos ⟨hx,hy⟩]
 have tB:∀ x y,x∈B->y∈B->twN A B pA pB x y=Q1 (ext (Av pB) B.length B) x y*L2.cnt (Av pA) A:=λx y hx hy=>by unfold twN;rw[if_neg (λq=>h.dj x q.1 hx),if_pos ⟨hx,hy⟩]
 have key:∀ p:Str×Str,[p.1,p.2].Sublist ns->(unB S p.1 p.2=true↔(p.1∈A/\p.2∈A/\Q1 (ext (Av pA) A.length A) p.1 p.2≠0/\Q1 (ext (Av pA) A.length A) p.2 p.1≠0)\/(p.1∈B/\p.2∈B/\Q1 (ext (Av pB) B.length B) p.1 p.2≠0/\Q1 (ext (Av pB) B.length B) p.2 p.1≠0)):=λp hs=>by
  obtain⟨hx,hy,hxy⟩:=ae9 hn hs;have nz:∀ {a c:Nat},c≠0->(a*c≠0↔a≠0):=fun {a c} hc=>⟨λq z=>q (by rw[z,Nat.zero_mul]),λq=>Nat.mul_ne_zero q hc⟩;have inA:∀ z∈ns,z∈A\/z∈B:=λz hz=>A08.mp (h.pm.mem_iff.mpr hz);rw[<- Rq h.half hx hy hxy];constructor
  . intro q;have hun:=(Rq h.half hx hy hxy).mp q;rcases inA _ hx with ax|bx
    . rcases inA _ hy with ay|by'
      . left;rw[<- h.cnt (.inl ⟨ax,ay⟩),<- h.cnt (.inl ⟨ay,ax⟩),tA _ _ ax ay,tA _ _ ay ax,nz cB,nz cB] at q;exact⟨ax,ay,q⟩
      have:=wayB_iff.mpr (h.way.mpr (.inr (.inr ⟨ax,by'⟩)));unfold unB at hun;rw[this] at hun
      cases hun
    rcases inA _ hy with ay|by'
    . have:=wayB_iff.mpr (h.way.mpr (.inr (.inr ⟨ay,bx⟩)));unfold unB at hun;rw[this,Bool.and_comm] at hun
      cases hun
    right
    rw[<- h.cnt (.inr ⟨bx,by'⟩),<- h.cnt (.inr ⟨by',bx⟩),tB _ _ bx by',tB _ _ by' bx,nz cA,nz cA] at q;exact⟨bx,by',q⟩
  rintro(⟨ax,ay,q⟩|⟨bx,by',q⟩)
  . rw[<- h.cnt (.inl ⟨ax,ay⟩),<- h.cnt (.inl ⟨ay,ax⟩),tA _ _ ax ay,tA _ _ ay ax,nz cB,nz cB];exact q
  rw[<- h.cnt (.inr ⟨bx,by'⟩),<- h.cnt (.inr ⟨by',bx⟩),tB _ _ bx by',tB _ _ by' bx,nz cA,nz cA];exact q
 refine(List.perm_ext_iff_of_nodup (A1A.mpr ⟨Vr (hn.sublist A1W),Vr (hn.sublist A1W),λa ha b hb e=>?_⟩) (by rw[Ym];exact Vr hn)).mpr λp=>?_
 . subst e;exact h.dj _ (mem_pPt.mp ha).2.1 (mem_pPt.mp hb).2.1
 rw[A08];show(p∈pPt ns A pA\/p∈pPt ns B pB)↔_;rw[mem_pPt,mem_pPt,Ym,mem_pR];constructor
 . rintro(⟨a,b⟩|⟨a,b⟩)
   . exact⟨a,(key p a).mpr (.inl b)⟩
   exact⟨a,(key p a).mpr (.inr b)⟩
 rintro⟨a,b⟩;rcases(key p a).mp b with q|q
 . exact .inl ⟨a,q⟩
 exact .inr ⟨a,q⟩
end
section
variable {prog:Program}{w:World}{A:Around}{E:Value->Shared->Prop}{s:Shared}{Q:Value->Shared->Prop}
end
section
variable {X:Cx}{pins:List (Addr×Obj)}{σ:List (Option V)}{H:Hp}{s:Shared}{h':Heap}
end
section
variable {X:Cx}{pins:List (Addr×Obj)}{σ:List (Option V)}{H:Hp}{s:Shared}
theorem af6 {P:Program}{w:World}{H:Hp}{h:Heap}(hok:HOk P w H h){a:Addr}{kvs:List (Key×V)}(r:Rd H a (.dK kvs)):(∃ ob,H a=some ob)/\ObjOk P w H h a (.dK kvs):=by
 rcases r with e|⟨o,e⟩
 . exact⟨⟨_,e⟩,hok _ _ e⟩
 exact⟨⟨_,e⟩,(hok _ _ e).2⟩
end
def szW (ns:List Str)(ps:List (Str×Str))(x:Str):Nat:=(ns.filter λy=>Av ps x y).length
section
variable {ns row:List Str}{ps:List (Str×Str)}
theorem Ux (h:HalfW ns ps)(x:Str):Av ps x x=false:=by
 cases e:Av ps x x with
 |false=>rfl
 |true=>exact absurd (wayB_iff.mp e) (h.irr x)
end
inductive PlanP (ns:List Str):List (Str×Str)->PyData->Nat->Prop
 |fin {ps:List (Str×Str)} {row:List Str}:ext (Av ps) ns.length ns=[row]->PlanP ns ps (.tuple [.str "end",nmD row]) 0
 |ask {ps:List (Str×Str)} {x y:Str} {D E:PyData} {m n:Nat}:x∈ns->y∈ns->x≠y->unB ps x y=true->PlanP ns (ps++[(x,y)]) D m->PlanP ns (ps++[(y,x)]) E n->PlanP ns ps (.tuple [.str "ask",.str x,.str y,D,E]) (1+max m n)
theorem HalfW.saidP {ns:List Str}{ps:List (Str×Str)}(h:HalfW ns ps)(hl:ps.length<1000){x y:Str}(hx:x∈ns)(hy:y∈ns)(hxy:x≠y)(hu:unB ps x y=true):HalfW ns (ps++[(x,y)]):=by have hc:=h.more hx hy;refine⟨h.nd,hc.mem,Ng h.irr (λz=>hxy z.symm) λg=>?_,h.few,by rw[A0H,A1F];omega⟩;unfold unB at hu;rw[wayB_iff.mpr g] at hu;simp at hu
theorem a58 {ps:List (Str×Str)}{x y:Str}(hu:unB ps x y=true):unB ps y x=true:=by unfold unB at hu ⊢;rw[Bool.and_comm];exact hu
theorem PlanP.lt {ns:List Str}{ps:List (Str×Str)}{D:PyData}{m:Nat}(p:PlanP ns ps D m):HalfW ns ps->ps.length+cnt (Av ps) ns<=1000->m<cnt (Av ps) ns:=by
 induction p with
 |fin e=>intro _ _;unfold cnt;rw[e];exact Nat.one_pos
 |@ask ps x y D E m n hx hy hxy hu _ _ i1 i2=>intro h hl;have h2:=a20 h hx hy hxy;have h3:=(Rq h hx hy hxy).mpr hu;have a1:=i1 (h.saidP (by omega) hx hy hxy hu) (by rw[A0H,A1F];omega);have a2:=i2 (h.saidP (by omega) hy hx (Ne.symm hxy) (a58 hu)) (by rw[A0H,A1F];omega);omega
section
variable {X:Cx}
def ad5:List V->Hp->VK->Prop:=λxs H Q=>∃ a kvs,xs=[V.ref a]/\Rd H a (.dK kvs)/\Q (.int kvs.length) H
theorem J6:CallR X (.builtin "len") ad5:=by
 intro pins s σ H xs us Q I r h;obtain⟨a,kvs,rfl,ha,q⟩:=h;obtain⟨u,rfl,ru⟩:=Oh r
 cases ru;obtain⟨⟨ob,he⟩,hz,hs,vs,rel,dd⟩:=af6 I.hok ha;have hl:=rel.length;refine call_len_dict hs dd (by rw[A11] at hz;omega) ?_;rw[<- hl];exact⟨.int kvs.length,H,I.tok _,⟨_,rfl⟩,q⟩
theorem Um {a:Addr}{kvs:List (Key×V)}{H:Hp}{Q:VK}(h:Rd H a (.dK kvs))(k:Q (.int kvs.length) H):ad5 [.ref a] H Q:=⟨a,kvs,rfl,h,k⟩
end
section
variable {prog:Program}{w:World}{A:Around}{E:Value->Shared->Prop}{s:Shared}
end
section
variable {X:Cx}{K:W.Frag}
end
section
variable {ps ps':List (Str×Str)}
end
section
variable {X:Cx}{k:Nat}{C:Addr}{x:Str}{ps:List Str}{sp:Sp}{e:Expr}{es:List Expr}{t:TA}{p pos:Pos}{E:XK}
end
section
variable {C:Addr}{sp:Sp}{t:TA}{σ:St}{H:Hp}{Q:VK}{E:XK}
end
inductive OddT (H:Hp):V->String->Prop where
 |non:OddT H .non "NoneType"
 |bl (b:Bool):OddT H (.bl b) "bool"
 |int (i:Int):OddT H (.int i) "int"
 |str (x:Str):OddT H (.str x) "str"
 |dK {a:Addr} {kvs:List (Key×V)} (e:H a=some (.dK kvs)):OddT H (.ref a) "dict"
theorem OddT.same {H H':Hp}{v:V}{c:String}(h:OddT H v c)(e:Same H H'):OddT H' v c:=by
 cases h with
 |non=>exact .non
 |bl b=>exact .bl b
 |int i=>exact .int i
 |str x=>exact .str x
 |dK q=>exact .dK (e _ _ q)
theorem LamT.other {P Q:Addr}{line col l' c':Nat}{qual q':Str}{H H':Hp}(h:LamT Q line col qual H)(hP:LamT P l' c' q' H)(hne:P≠Q)(e:ExtBut P H H'):LamT Q line col qual H':=by
 have ht:∃ ps,H P=some (.tbl ps):=by
  rcases hP with h|⟨c,h,_⟩
  . exact⟨_,h⟩
  exact⟨_,h⟩
 obtain⟨ps,ht⟩:=ht;rcases h with h|⟨c,h1,h2⟩
 . exact .inl (e _ _ (Ne.symm hne) h)
 refine .inr ⟨c,e _ _ (Ne.symm hne) h1,e _ _ (λz=>?_) h2⟩;rw[z,ht] at h2;unfold Yi at h2
 cases h2
def xF (K:W.Frag)(C B:Addr)(hf i0:Bool)(fs:List Str):Bool:=
 a44 K C&&(W.findIn K (.ref C) "__setattr__" == some (some (.builtin "object.__setattr__")))&&(W.findIn K (.ref C) "__getattribute__" == some (some (.builtin "BaseException.__getattribute__"))) &&
 (W.findIn K (.ref C) "__getattr__" == some none)&&(W.findIn K (.ref C) "__class__" == some (some (.builtin "object.__class__")))&&(hf||Gv K C B)&&W.keepIn K (.ref C)&&(!i0||Vq K C)&&fs.all λf=>W.findIn K (.ref C) f==some none
section
variable {K:W.Frag}{C B:Addr}{hf i0:Bool}{fs:List Str}
theorem O3 (h:xF K C B hf i0 fs=true):a44 K C=true/\W.findIn K (.ref C) "__setattr__" = some (some (.builtin "object.__setattr__"))/\W.findIn K (.ref C) "__getattribute__" = some (some (.builtin "BaseException.__getattribute__"))/\W.findIn K (.ref C) "__getattr__" = some none/\W.findIn K (.ref C) "__class__" = some (some (.builtin "object.__class__"))/\(hf=true\/Gv K C B=true)/\W.keepIn K (.ref C)=true/\(i0=true->Vq K C=true)/\∀ f∈fs,W.findIn K (.ref C) f=some none:=by unfold xF at h;simp only[Bool.and_eq_true,beq_iff_eq,Bool.or_eq_true,List.all_eq_true] at h;obtain⟨⟨⟨⟨⟨⟨⟨⟨h1,h2⟩,h3⟩,h4⟩,h5⟩,h6⟩,h7⟩,h8⟩,h9⟩:=h;exact⟨h1,h2,h3,h4,h5,h6,h7,λz=>by rw[z] at h8;simpa using h8,h9⟩
theorem xF.xc (h:xF K C B hf i0 fs=true)(cg:W.specialIn K (.builtin "object.__class__") "__get__" = some (some (.builtin "getset_descriptor.__get__")))(ct:W.takesIn K (.builtin "object.__class__")=some true):XC K C:=
 let ⟨h1,h2,h3,h4,h5,_⟩:=O3 h;⟨h1,h2,h3,h4,h5,cg,ct⟩
theorem xF.mr (h:xF K C B false i0 fs=true):Gv K C B=true:=(O3 h).2.2.2.2.2.1.resolve_left (λz=>by cases z)
theorem xF.kp (h:xF K C B hf i0 fs=true):W.keepIn K (.ref C)=true:=(O3 h).2.2.2.2.2.2.1
theorem xF.no (h:xF K C B hf true fs=true):Vq K C=true:=(O3 h).2.2.2.2.2.2.2.1 rfl
theorem xF.n (h:xF K C B hf i0 fs=true){f:Str}(hf:f∈fs):C6 K C f:=(O3 h).2.2.2.2.2.2.2.2 f hf
end
mutual
theorem a66 {K:W.Frag}{H H':Hp}(l:∀ a xs,SqL K H a xs->SqL K H' a xs)(t:∀ a xs,SqT K H a xs->SqT K H' a xs):∀(D:PyData) (v:V),Is K H D v->Is K H' D v
 |.none,_,h=>by simp only[Is] at h ⊢;exact h
 |.bool _,_,h=>by simp only[Is] at h ⊢;exact h
 |.int _,_,h=>by simp only[Is] at h ⊢;exact h
 |.str _,_,h=>by simp only[Is] at h ⊢;exact h
 |.list ds,v,h=>by simp only[Is] at h ⊢;obtain⟨a,xs,e1,e2,e3⟩:=h;exact⟨a,xs,e1,l _ _ e2,Lb l t ds xs e3⟩
 |.tuple ds,v,h=>by simp only[Is] at h ⊢;obtain⟨a,xs,e1,e2,e3⟩:=h;exact⟨a,xs,e1,t _ _ e2,Lb l t ds xs e3⟩
 |.dict _,_,h=>by simp only[Is] at h
theorem Lb {K:W.Frag}{H H':Hp}(l:∀ a xs,SqL K H a xs->SqL K H' a xs)(t:∀ a xs,SqT K H a xs->SqT K H' a xs):∀(ds:List PyData) (vs:List V),IsL K H ds vs->IsL K H' ds vs
 | [],_,h=>by simp only[IsL] at h ⊢;exact h
 |D :: ds,vs,h=>by simp only[IsL] at h ⊢;obtain⟨v,r,e1,e2,e3⟩:=h;exact⟨v,r,e1,a66 l t D v e2,Lb l t ds r e3⟩
end
theorem Nz {α:Type}{p q r:α->Bool}:∀ {l:List α},(∀ a∈l,(p a=true/\q a=false/\r a=false)\/(p a=false/\q a=true/\r a=false)\/(p a=false/\q a=false/\r a=true))->(l.filter p).length+(l.filter q).length+(l.filter r).length=l.length
 | [],_=>rfl
 |a :: l,h=>by have ih:=Nz (l:=l) λb hb=>h b (A0C _ hb);rcases h a (List.mem_cons_self ..) with ⟨h1,h2,h3⟩|⟨h1,h2,h3⟩|⟨h1,h2,h3⟩<;>simp only[List.filter_cons,h1,h2,h3,if_true,Bool.false_eq_true,if_false,List.length_cons]<;>omega
theorem Zv {ps:List (Str×Str)}(irr:∀ x,Av ps x x=false)(asym:∀ x y,Av ps x y=true->Av ps y x=false):∀ ns:List Str,2*(ns.map λx=>(ns.filter λy=>Av ps x y).length).sum+2*(unP ns ps).length=ns.length*(ns.length-1)
 | []=>rfl
 |a :: t=>by
   have ih:=Zv irr asym t
   have h3:(t.filter λy=>Av ps a y).length+(t.filter λy=>Av ps y a).length+(t.filter λy=>unB ps a y).length=t.length:=Nz λy _=>by
    unfold unB
    cases e1:Av ps a y with
    |true=>rw[asym _ _ e1];simp
    |false=>cases e2:Av ps y a<;>simp
   have hs:(t.map λx=>((a :: t).filter λy=>Av ps x y).length).sum=(t.map λx=>(t.filter λy=>Av ps x y).length).sum+(t.filter λy=>Av ps y a).length:=by
    have key:∀ l:List Str,(l.map λx=>((a :: t).filter λy=>Av ps x y).length).sum=(l.map λx=>(t.filter λy=>Av ps x y).length).sum+(l.filter λy=>Av ps y a).length:=λl=>by
     induction l with
     |nil=>rfl
     |cons b l ih=>
       rw[A0I,A2J,ih,A0I,A2J,A15 (xs:=t),A15 (xs:=l)]
       cases Av ps b a<;>simp<;>omega
    exact key t
   rw [A0I,A2J,hs,Wr,A15,irr a,A0F,Nat.add_sub_cancel];simp only[Bool.false_eq_true,if_false]
   cases hl:t.length with
   |zero=>rw[hl] at ih h3;simp only[Nat.zero_mul] at ih;omega
   |succ n=>
     rw[hl] at ih h3;simp only[Nat.add_sub_cancel] at ih
     have e1:(n+1+1)*(n+1)=(n+1)*n+2*(n+1):=by rw[Nat.add_mul (n+1) 1,Nat.mul_add,Nat.mul_one];omega
     rw[e1];omega
section
variable {P:Program}{w:World}{K:W.Frag}{mg:Str->Option Value}{base:Heap}{A:Around}{outer:List Env}{s:Shared}{H:Hp}
end
section
variable {X:Cx}{pins:List (Addr×Obj)}{σ:List (Option V)}{H:Hp}{s s':Shared}
structure Odd (X:Cx)(pins:List (Addr×Obj))(a:Addr):Prop where
 new:X.s₀.heap.objs.size<=a
 loc:a≠X.env.locals
 cel:∀ x c,X.env.cells.lookup x=some c->c≠a
 pin:∀ p∈X.pn++pins,p.1≠a
theorem Odd.nofs {a:Addr}(h:Odd X pins a)(ok:X.Ok):a∉X.fs:=λhb=>by obtain⟨_,o,ho,_⟩:=ok.funs.mem hb;exact absurd (A0V (A07 ho) h.new) (A25 _)
end
section
variable {X:Cx}{pins:List (Addr×Obj)}{σ:List (Option V)}{H:Hp}{s:Shared}
end
def drop (H:Hp)(a:Addr):Hp:=λb=>if b=a then none else H b
section
variable {X:Cx}{k:Nat}{x:Str}{ps:List Str}{sp:Sp}{e:Expr}{es:List Expr}{t:TA}{p pos:Pos}
end
section
variable {prog:Program}{w:World}{A:Around}{E:Value->Shared->Prop}{s:Shared}
abbrev TKd (prog:Program)(w:World):=tupleKind (Ak prog w)
end
def PrsT (K:W.Frag)(H:Hp):List (List Key×V)->List V->Prop
 | [],ys=>ys=[]
 |kv :: r,ys=>∃ t b ys',ys = .ref t :: ys'/\SqT K H t [.ref b,kv.2]/\H b=some (.tup (kv.1.map kV))/\PrsT K H r ys'
theorem PrsT.pk {X:Cx}{pins:List (Addr×Obj)}{σ:St}{H:Hp}{s:Shared}(I:Inv X pins σ H s):∀(kvs:List (List Key×V)) (ys:List V) (its:List Value),PrsT X.K H kvs ys->Vals ys its ->
  ∃ pk:List (List Key×Addr×Value×Addr),pk.length=its.length/\Paired (λ(p:List Key×V) (q:List Key×Addr×Value×Addr)=>p.1=q.1/\H q.2.1=some (.tup (p.1.map kV))/\RelV p.2 q.2.2.1) kvs pk/\∀(n:Nat) (p:List Key×Addr×Value×Addr),pk[n]? = some p->its[n]? = some (Value.ref p.2.2.2)/\IsTup s.heap p.2.2.2 #[.ref p.2.1,p.2.2.1]/\(TKd X.prog X.w).is s.heap p.1 p.2.1
 | [],ys,its,h,v=>by
   have h':ys=[]:=h;subst h'
   cases v;exact ⟨[],rfl,.nil,λn p hp=>by simp at hp⟩
 |kv :: r,ys,its,h,v=>by
   obtain⟨t,b,ys',rfl,h2,hb,h3⟩:=h
   cases v with
   |cons v1 v2=>
     obtain⟨pk,l1,l2,l3⟩:=PrsT.pk I r ys' _ h3 v2
     cases v1;obtain⟨its2,rv,ht,_⟩:=I.tuple h2;obtain ⟨key,val,rfl,a1,a3⟩:=Vals.two rv
     cases a1;refine⟨(kv.1,b,val,t) :: pk,by simp[l1],.cons ⟨rfl,hb,a3⟩ l2,λn p hp=>?_⟩
     cases n with
     |zero=>have:p=(kv.1,b,val,t):=(Option.some.inj (by simpa using hp)).symm;subst this;exact⟨rfl,ht,Kn I.hok hb⟩
     |succ n=>exact l3 n p (by simpa using hp)
section
variable {X:Cx}{K:W.Frag}
end
structure Tps (H:Hp)(rows:List (List Str))(ys:List V):Prop where
 len:rows.length=ys.length
 get:∀(i:Nat) (r:List Str),rows[i]? = some r->∃ a:Addr,ys[i]? = some (V.ref a)/\H a=some (.tup (r.map V.str))
section
variable {K:W.Frag}{H H':Hp}{rows rs:List (List Str)}{ys zs:List V}{r:List Str}
theorem Tps.nil:Tps H [] []:=⟨rfl,λi r h=>by cases h⟩
theorem Tps.same (h:Tps H rows ys)(e:Same H H'):Tps H' rows ys:=⟨h.len,λi r hr=>let ⟨a,h1,h2⟩:=h.get i r hr;⟨a,h1,e _ _ h2⟩⟩
theorem Tps.append (h:Tps H rows ys)(g:Tps H rs zs):Tps H (rows++rs) (ys++zs):=by
 refine⟨by rw[A0H,A0H,h.len,g.len],λi r hr=>?_⟩
 by_cases hi:i<rows.length
 . rw[A1K hi] at hr;obtain⟨a,h1,h2⟩:=h.get i r hr;exact⟨a,by rw[A1K (by rw[<- h.len];exact hi)];exact h1,h2⟩
 rw[A1S (by omega)] at hr;obtain⟨a,h1,h2⟩:=g.get _ r hr;exact⟨a,by rw[A1S (by rw[<- h.len];omega),<- h.len];exact h1,h2⟩
theorem Tps.one {a:Addr}(h:H a=some (.tup (r.map V.str))):Tps H [r] [.ref a]:=⟨rfl,λi r' hr=>by
 cases i with
 |zero=>cases hr;exact⟨a,rfl,h⟩
 |succ i=>cases hr⟩
theorem Tps.at (h:Tps H rows ys){i:Nat}{y:V}(hy:ys[i]? = some y):∃ a r,y = .ref a/\rows[i]? = some r/\H a=some (.tup (r.map V.str)):=by
 obtain⟨hi,_⟩:=A02.mp hy;have hr:=A03 (show i<rows.length by rw[h.len];exact hi);obtain⟨a,h1,h2⟩:=h.get i _ hr;rw[hy] at h1
 cases h1;exact⟨a,_,rfl,hr,h2⟩
end
theorem PrsT.len {K:W.Frag} {H:Hp}:∀ {kvs:List (List Key×V)} {ys:List V},PrsT K H kvs ys->ys.length=kvs.length
 | [],ys,h=>by have h':ys=[]:=h;rw[h'];rfl
 |kv :: r,ys,h=>by obtain⟨t,b,ys',rfl,_,_,h3⟩:=h;rw[A0F,A0F,PrsT.len h3]
theorem PrsT.keep {K:W.Frag}{H H':Hp}(hq:∀ t xs,SqT K H t xs->SqT K H' t xs)(ht:∀ b xs,H b=some (.tup xs)->H' b=some (.tup xs)):∀ {kvs:List (List Key×V)} {ys:List V},PrsT K H kvs ys->PrsT K H' kvs ys
 | [],ys,h=>h
 |kv :: r,ys,h=>by obtain⟨t,b,ys',rfl,h1,h2,h3⟩:=h;exact⟨t,b,ys',rfl,hq _ _ h1,ht _ _ h2,PrsT.keep hq ht h3⟩
theorem PrsT.snoc {K:W.Frag}{H:Hp}{t b:Addr}{k:List Key}{v:V}(h1:SqT K H t [.ref b,v])(h2:H b=some (.tup (k.map kV))):∀ {kvs:List (List Key×V)} {ys:List V},PrsT K H kvs ys->PrsT K H (kvs++[(k,v)]) (ys++[.ref t])
 | [],ys,h=>by have h':ys=[]:=h;subst h';exact⟨t,b,[],rfl,h1,h2,rfl⟩
 |kv :: r,ys,h=>by obtain⟨t',b',ys',rfl,a1,a2,a3⟩:=h;exact⟨t',b',ys'++[.ref t],rfl,a1,a2,PrsT.snoc h1 h2 a3⟩
section
variable {M:Model}{A:Around}{E:Value->Shared->Prop}{s:Shared}
end
def upL (rk:Value->Nat)(L:List Keyed):Prop:=L.Pairwise λx y=>rk x.1<=rk y.1
section
variable {M:Model}{A:Around}{E:Value->Shared->Prop}{s:Shared}{kd:SortKind}{rk:Value->Nat}{V:Value->Prop}
structure Mg (rk:Value->Nat)(L O A B:List Keyed):Prop where
 pm:(O++(A++B)).Perm L
 up:upL rk O
 le:∀ x∈O,∀ y∈A++B,rk x.1<=rk y.1
theorem Mg.left {L O A B c:List Keyed}(h:Mg rk L O (c++A) B)(hc:upL rk c)(hl:∀ x∈c,∀ y∈A++B,rk x.1<=rk y.1):Mg rk L (O++c) A B:=by
 refine⟨?_,List.pairwise_append.mpr ⟨h.up,hc,λx hx y hy=>h.le x hx y (by simp[hy])⟩,λx hx y hy=>?_⟩
 . have:=h.pm;rwa[A1I,<- A1I O] at this
 rcases A08.mp hx with g|g
 . exact h.le x g y (by rcases List.mem_append.mp hy with q|q<;>simp[q])
 exact hl x g y hy
theorem Mg.flip {L O A B:List Keyed}(h:Mg rk L O A B):Mg rk L O B A:=
 ⟨(List.Perm.append_left O List.perm_append_comm).trans h.pm,h.up,λx hx y hy=>h.le x hx y (by rcases List.mem_append.mp hy with q|q<;>simp[q])⟩
theorem Mg.right {L O A B c:List Keyed}(h:Mg rk L O A (c++B))(hc:upL rk c)(hl:∀ x∈c,∀ y∈A++B,rk x.1<=rk y.1):Mg rk L (O++c) A B:=
 (h.flip.left hc λx hx y hy=>hl x hx y (by rcases List.mem_append.mp hy with q|q<;>simp[q])).flip
def Kp4 (st st':SortSt):Prop:=kindOf st'=kindOf st/\arrOf st'=arrOf st/\pendingOf st'=pendingOf st/\failedOf st'=failedOf st
theorem Kp4.refl (st:SortSt):Kp4 st st:=⟨rfl,rfl,rfl,rfl⟩
section
variable {a b out:Array Keyed}{ia ib n:Nat}{x y:Keyed}
theorem upL.drop {L:List Keyed}(h:upL rk L)(i:Nat):upL rk (L.drop i):=List.Pairwise.sublist (List.drop_sublist _ _) h
end
end
structure MgH (rk:Value->Nat)(L A B O:List Keyed):Prop where
 pm:(A++B++O).Perm L
 up:upL rk O
 le:∀ x∈O,∀ y∈A++B,rk y.1<=rk x.1
section
variable {M:Model}{A:Around}{E:Value->Shared->Prop}{s:Shared}{kd:SortKind}{rk:Value->Nat}{V:Value->Prop}
theorem MgH.right {L A B O c:List Keyed}(h:MgH rk L A (B++c) O)(hc:upL rk c)(hl:∀ x∈c,∀ y∈A++B,rk y.1<=rk x.1):MgH rk L A B (c++O):=by
 refine⟨?_,List.pairwise_append.mpr ⟨hc,h.up,λx hx y hy=>h.le y hy x (by simp[hx])⟩,λx hx y hy=>?_⟩
 . have:=h.pm;rwa[<- A1I A,A1I] at this
 rcases A08.mp hx with g|g
 . exact hl x g y hy
 exact h.le x g y (by rcases List.mem_append.mp hy with q|q<;>simp[q])
theorem MgH.flip {L A B O:List Keyed}(h:MgH rk L A B O):MgH rk L B A O:=
 ⟨(List.Perm.append_right O List.perm_append_comm).trans h.pm,h.up,λx hx y hy=>h.le x hx y (by rcases List.mem_append.mp hy with q|q<;>simp[q])⟩
theorem MgH.left {L A B O c:List Keyed}(h:MgH rk L (A++c) B O)(hc:upL rk c)(hl:∀ x∈c,∀ y∈A++B,rk y.1<=rk x.1):MgH rk L A B (c++O):=
 (h.flip.right hc λx hx y hy=>hl x hx y (by rcases List.mem_append.mp hy with q|q<;>simp[q])).flip
section
variable {a b out:Array Keyed}{m n:Nat}{x y:Keyed}
theorem upL.take {L:List Keyed}(h:upL rk L)(i:Nat):upL rk (L.take i):=List.Pairwise.sublist (List.take_sublist _ _) h
end
end
section
variable {M:Model}{A:Around}{E:Value->Shared->Prop}{s:Shared}{kd:SortKind}{rk:Value->Nat}{V:Value->Prop}
end
structure Sg (lo:Nat)(st st':SortSt):Prop where
 kd:kindOf st'=kindOf st
 pd:pendingOf st'=pendingOf st
 fl:failedOf st'=failedOf st
 pm:(arrOf st').Perm (arrOf st)
 eq:∀ k,k<lo->(arrOf st')[k]? = (arrOf st)[k]?
section
variable {M:Model}{A:Around}{E:Value->Shared->Prop}{s:Shared}{kd:SortKind}{rk:Value->Nat}{V:Value->Prop}
theorem Sg.refl (lo:Nat)(st:SortSt):Sg lo st st:=⟨rfl,rfl,rfl,Array.Perm.refl _,λ_ _=>rfl⟩
theorem Sg.size {lo:Nat}{st st':SortSt}(h:Sg lo st st'):(arrOf st').size=(arrOf st).size:=h.pm.size_eq
end
def pnd:Nat->List (List Keyed)->List (Nat×Nat)
 |_,[]=>[]
 |p,r :: rs=>(p,r.length) :: pnd (p+r.length) rs
theorem J3:∀(X Y:List (List Keyed)) (p:Nat),pnd p (X++Y)=pnd p X++pnd (p+X.flatten.length) Y
 | [],Y,p=>by simp[pnd]
 |r :: X,Y,p=>by simp only[List.cons_append,pnd,J3 X Y,List.flatten_cons,List.length_append,Nat.add_assoc]
theorem E8:∀(X:List (List Keyed)) (p:Nat),(pnd p X).length=X.length
 | [],_=>rfl
 |r :: X,p=>by rw[pnd,A0F,A0F,E8 X]
def Pnd (pend:Array (Nat×Nat×Nat))(rs:List (List Keyed)):Prop:=pend.toList.map (λt=>(t.1,t.2.1))=pnd 0 rs
theorem Pnd.size {pend:Array (Nat×Nat×Nat)}{rs:List (List Keyed)}(h:Pnd pend rs):pend.size=rs.length:=by have:=congrArg List.length h;rwa[A05,E8,A30] at this
theorem Pnd.at {pend:Array (Nat×Nat×Nat)}{X Y:List (List Keyed)}{r:List Keyed}(h:Pnd pend (X++r :: Y)):∃ pw,pend[X.length]? = some (X.flatten.length,r.length,pw):=by
 have h1:(pend.toList.map (λt=>(t.1,t.2.1)))[X.length]? = some (X.flatten.length,r.length):=by rw[h,J3,A1S (by rw[E8];exact A0A _),E8,Nat.sub_self,Nat.zero_add];rfl
 rw[A0G,A26] at h1
 cases e:pend[X.length]? with
 |none=>rw[e] at h1;cases h1
 |some t=>
   rw[e] at h1;obtain⟨t1,t2,t3⟩:=t
   cases h1;exact⟨t3,rfl⟩
theorem Pnd.merge {pend:Array (Nat×Nat×Nat)}{X Y:List (List Keyed)}{ra rb rm:List Keyed}{pw:Nat}(h:Pnd pend (X++ra :: rb :: Y))(hm:rm.length=ra.length+rb.length) :
  Pnd ((pend.setIfInBounds X.length (X.flatten.length,ra.length+rb.length,pw)).eraseIdxIfInBounds (X.length+1)) (X++rm :: Y):=by
 have hs:=h.size;rw[A0H,A0F,A0F] at hs;unfold Pnd at h ⊢;rw[Array.toList_eraseIdxIfInBounds,Array.toList_setIfInBounds,List.eraseIdx_eq_take_drop_succ,A19,List.map_take,List.map_drop,List.map_set,h,<- List.eraseIdx_eq_take_drop_succ,J3,J3];rw[List.set_append_right _ _ (by rw[E8];exact A0A _),E8,Nat.sub_self,List.eraseIdx_append_of_length_le (by rw[E8];omega),E8,Nat.add_sub_cancel_left];simp only[pnd,List.set_cons_zero,List.eraseIdx_cons_succ,List.eraseIdx_cons_zero,Nat.zero_add,hm,Nat.add_assoc]
theorem Pnd.push {pend:Array (Nat×Nat×Nat)}{rs:List (List Keyed)}{r:List Keyed}{lo n:Nat}(h:Pnd pend rs)(hl:lo=rs.flatten.length)(hn:n=r.length):Pnd (pend.push (lo,n,0)) (rs++[r]):=by unfold Pnd at h ⊢;rw[Array.toList_push,A19,h,J3,Nat.zero_add,hl,hn];rfl
theorem Pnd.mod {pend:Array (Nat×Nat×Nat)}{rs:List (List Keyed)}(h:Pnd pend rs)(i pw:Nat):Pnd (pend.modify i λ(p:Nat×Nat×Nat)=>(p.1,p.2.1,pw)) rs:=by
 unfold Pnd at h ⊢;rw[<- h];refine List.ext_getElem? λk=>?_;rw[A0G,A0G,A26,A26,Array.getElem?_modify]
 split
 . cases pend[k]? <;> rfl
 rfl
section
variable {M:Model}{A:Around}{E:Value->Shared->Prop}{s:Shared}{kd:SortKind}{rk:Value->Nat}{V:Value->Prop}{L:List Keyed}
end
section
variable {prog:Program}{w:World}{A:Around}{E:Value->Shared->Prop}{z:Shared}
def RwT (h:Heap)(v:Value)(r:List Str):Prop:=∃ a o n us,v = .ref a/\h.get? a=some o/\o.cls = .type "tuple" /\ o.data = .seq us n/\Paired (λ(x:Str) (u:Value)=>∃ t,u = .str x t) r us.toList
theorem RwT.keep {h h':Heap}{v:Value}{r:List Str}(x:RwT h v r)(k:∀ b o,h.get? b=some o->o.cls = .type "tuple" -> h'.get? b=some o):RwT h' v r:=by obtain⟨a,o,n,us,e,h1,h2,h3⟩:=x;exact⟨a,o,n,us,e,k a o h1 h2,h2,h3⟩
theorem RwT.one {h:Heap}{v:Value}{r r':List Str}(x:RwT h v r)(y:RwT h v r'):r=r':=by
 obtain⟨a,o,n,us,rfl,h1,_,h3,h4⟩:=x;obtain⟨a',o',n',us',e,g1,_,g3,g4⟩:=y
 cases e;rw[h1] at g1
 cases g1;rw[h3] at g3
 cases g3
 have go:∀ {r r':List Str} {us:List Value},Paired (λ(x:Str) (u:Value)=>∃ t,u = .str x t) r us->Paired (λ(x:Str) (u:Value)=>∃ t,u = .str x t) r' us->r=r':=fun {r r' us} p=>by
  induction p generalizing r' with
  |nil=>intro q;cases q;rfl
  |cons c t ih=>
    intro q
    cases q with
    |cons c' t'=>
      obtain⟨t1,rfl⟩:=c;obtain⟨t2,e⟩:=c'
      cases e;rw[ih t']
 exact go h4 g4
end
section
variable {X:Cx}{K:W.Frag}
end
section
variable {X:Cx}{K:W.Frag}{e:Expr}{ta:TE}
end
def KD (P:Program)(w:World)(K:W.Frag)(a:Addr)(kvs:List (Key×V)):Prop:=
 (a==sysModules)=false/\∃ vs,KV kvs vs/\∀ h:Heap,K.In h->h.DictOf (Ak P w) a vs
theorem KD.of {P:Program}{w:World}{K:W.Frag}{a:Addr}{kvs:List (Key×V)}{o:Obj}{es:Array DictEntry}{ep:Nat}{vs:List (Key×Value)}(hs:(a==sysModules)=false)(hl:K.lookup a=some o)(hx:o.ExactDict)(hd:o.data = .dict es ep)
  (hp:Pairs (Ak P w) es.toList vs) (hh:∀(i:Nat) e q,es.toList[i]? = some e->vs[i]? = some q->e.hash=(Ak P w).hash q.1) (hn:(vs.map (·.1)).Nodup) (hv:KV kvs vs):KD P w K a kvs:=
 ⟨hs,vs,hv,λh hK=>⟨o,es,ep,hK a o hl,hx,hd,λe he=>by
  obtain⟨i,hi⟩:=List.getElem?_of_mem (A4M.mpr he)
  have go:∀ {l:List DictEntry} {m:List (Key×Value)},Pairs (Ak P w) l m->∀ {i:Nat} {e:DictEntry},l[i]? = some e->∃ q,m[i]? = some q/\(Ak P w).is q.1 e.key=true:=by
   intro l m hq
   induction hq with
   |nil=>intro i e h;cases h
   |cons h1 h2 h3 ih=>
     intro i e h
     cases i with
     |zero=>cases h;exact⟨_,rfl,h1⟩
     |succ i=>exact ih h
  obtain⟨q,h1,h2⟩:=go hp hi;exact⟨q.1,h2,hh i e q hi h1⟩,hp,hn⟩⟩
def Z4 (a:Addr)(kvs:List (Key×V)):R2:=λx y H Q=>∃ k v,x = .ref a/\y=kV k/\Cf kvs k=some v/\Q v H
def Zm (a:Addr)(kvs:List (Key×V))(neg:Bool):R2:=λx y H Q=>∃ k,y = .ref a/\x=kV k/\Q (.bl (if neg then !(Cf kvs k).isSome else(Cf kvs k).isSome)) H
section
variable {X:Cx}{a:Addr}{kvs:List (Key×V)}
theorem an6 (d:KD X.prog X.w X.K a kvs):IxR X (Z4 a kvs):=by
 intro value slice pins s σ H x y v u Q I rx ry h hs;obtain⟨k,z,rfl,rfl,e,q⟩:=h
 cases rx;obtain⟨hm,vs,rel,hd⟩:=d;have dd:=hd _ I.kIn;obtain⟨w',hw,rw'⟩:=RelO.some_of (v:=z) (o:=valueAt vs k) (by rw[<- e];exact rel.val k);exact tail_any dd.typeIs PySem.F.slot_dict_getitem.lookup (wpAny_getItem_of (Eu ry) dd.mapOf hw ⟨z,H,I.tok _,rw',q⟩) hs
theorem Rf (d:KD X.prog X.w X.K a kvs):OpR X (compareOp .NotIn) (Zm a kvs true):=by
 intro pins s σ H x y v u Q I rx ry h;obtain⟨k,rfl,rfl,q⟩:=h
 cases ry;obtain⟨hm,vs,rel,hd⟩:=d;refine wpAny_notIn_of (Eu rx) hm (hd _ I.kIn).mapOf ?_;rw[<- (rel.val k).isSome_eq];exact⟨.bl _,H,I.tok _,rfl,q⟩
variable {P:Program}{w:World}{K:W.Frag}
theorem Xp (d:KD P w K a kvs)(hP:X.prog=P:=by ac_nf)(hw:X.w=w:=by ac_nf)(hK:X.K=K:=by ac_nf):IxR X (Z4 a kvs):=by subst hP hw hK;exact an6 d
theorem Od (d:KD P w K a kvs)(hP:X.prog=P:=by ac_nf)(hw:X.w=w:=by ac_nf)(hK:X.K=K:=by ac_nf):OpR X (compareOp .NotIn) (Zm a kvs true):=by subst hP hw hK;exact Rf d
end
theorem Xh {a:Addr}{kvs:List (Key×V)}{z:Str}{v:V}{H:Hp}{Q:VK}(e:Cf kvs (Sum.inr z:Key)=some v)(k:Q v H):Z4 a kvs (.ref a) (.str z) H Q:=⟨.inr z,v,rfl,rfl,e,k⟩
theorem Z5 {a:Addr}{kvs:List (Key×V)}{z:Str}{H:Hp}{Q:VK}(k:Q (.bl (!(Cf kvs (Sum.inr z:Key)).isSome)) H):Zm a kvs true (.str z) (.ref a) H Q:=⟨.inr z,rfl,rfl,k⟩
end L2
namespace L2
open PySem PySem.Spec PyProof.Rows
open Builtin
theorem Vi (l:Addr)(its:Array Value)(n:Nat)(dc:Option Addr)(sl:Array (Option Value))(u:Tok) :
  Meets (Builtin.«tuple.__mul__» ⟨[.ref l,.int 1 u],[]⟩) (λ_ R z=>z.heap.get? l=some {cls:=.type "tuple",dict:=dc,data:=.seq its n,slots:=sl}/\R (.ok (.ret (.ref l))) z):=
 .of_wp λprog w A R z h=>by
  obtain⟨hp,g,d,tk,os⟩:=z;obtain⟨hl,h⟩:=h
  wp_walk
  exact⟨_,rfl,h⟩
theorem Wh (l:Addr)(its:Array Value)(n:Nat)(dc:Option Addr)(sl:Array (Option Value))(u:Tok)(h1:¬ (its.isEmpty||(0:Int)==1)=true) :
  Meets (Builtin.«tuple.__mul__» ⟨[.ref l,.int 0 u],[]⟩) (λ_ R z=>z.heap.get? l=some {cls:=.type "tuple",dict:=dc,data:=.seq its n,slots:=sl}/\R (.ok (.ret (.ref z.heap.objs.size))) {z with heap:=z.heap.push {cls:=.type "tuple",data:=.seq #[]}}):=
 .of_wp λprog w A R z h=>by
  obtain⟨hp,g,d,tk,os⟩:=z;obtain⟨hl,h⟩:=h
  wp_walk
  rw[A0L h1]
  wp_walk
  exact⟨_,rfl,h⟩
section
variable {X:Cx}{K:W.Frag}
def Zu (K:W.Frag):R2:=λx y H Q=>∃(l:Addr) (k:Int) (xs:List V),x = .ref l/\y = .int k/\SqT K H l xs/\0<=k/\k<=2000/\xs≠[]/\xs.length<=100/\(k=1->Q (.ref l) H)/\(k≠1->∀ p,H p=none->Q (.ref p) (upd H p (.tup (List.replicate k.toNat xs).flatten)))
theorem a02:OpR X (binaryOp .Mult) (Zu X.K):=by
 intro pins s σ H x y v u Q I rx ry h;obtain⟨l,k,xs,rfl,rfl,hH,h1,h2,h3,h4,q1,q⟩:=h
 cases rx;obtain⟨t,rfl⟩:=ry;obtain⟨its,r,ht,hz⟩:=I.tuple hH;obtain⟨⟨cls,dct,dat,sl⟩,e,hc,n,hd⟩:=ht;simp only at hc hd;subst hc;subst hd;have hl:=r.length;have hne:its≠[]:=λz=>by rw[z] at hl;exact h3 (A0Y.mp hl)
 have hem:its.toArray.isEmpty=false:=by cases its with | nil=>exact absurd rfl hne | cons _ _=>rfl
 rcases(by omega:k=1\/k=0\/2<=k) with rfl|rfl|hk
 . refine A2X (T:="tuple") (U:="int") nofun ⟨_,e,rfl⟩ (λs'=>A3B s' 1 t) Gs F.fills_int_mul F.slot_int_rmul Gp F.slot_int_index.lookup
    (A2L F.slot_int_rmul (A3B s 1 t) F.entry_int_rmul (F.args_int_rmul_2 _ _) (Lh 1 t l its.toArray n dct sl)
     ⟨e,rfl,⟨_,e,rfl⟩,A2L F.slot_tuple_mul ⟨_,e,rfl⟩ F.entry_tuple_mul (F.args_tuple_mul_2 _ _) (Vi l its.toArray n dct sl t) ⟨e,?_⟩⟩)
   exact⟨.ref _,_,I.tok _,rfl,q1 rfl⟩
 . refine A2X (T:="tuple") (U:="int") nofun ⟨_,e,rfl⟩ (λs'=>A3B s' 0 t) Gs F.fills_int_mul F.slot_int_rmul Gp F.slot_int_index.lookup
    (A2L F.slot_int_rmul (A3B s 0 t) F.entry_int_rmul (F.args_int_rmul_2 _ _) (Lh 0 t l its.toArray n dct sl)
     ⟨e,rfl,⟨_,e,rfl⟩,A2L F.slot_tuple_mul ⟨_,e,rfl⟩ F.entry_tuple_mul (F.args_tuple_mul_2 _ _) (Wh l its.toArray n dct sl t ?_) ⟨e,?_⟩⟩)
   . rw[hem];decide
   exact⟨.ref _,_,I.laid (t':=s.toks) (o:=.tup []) (λb ob e=>Heap.get?_push_of_some _ e) (Nat.le_refl _) ⟨by rw[sizeLine_eq];simp,[],.nil,IsTupN.new _ _⟩,rfl,q nofun _ (I.hok.fresh (Nat.le_refl _))⟩
 have hsz:its.length*k.toNat<=1000000:=by have:its.length*k.toNat<=100*2000:=Nat.mul_le_mul (by omega) (by omega);omega
 have hi:(its.toArray.size:Int)*k=((its.length*k.toNat:Nat):Int):=by rw[A0N,Int.natCast_mul,A31 (by omega)]
 have hfl:(List.replicate k.toNat its.toArray).foldl (· ++ ·) #[]=(List.replicate k.toNat its).flatten.toArray:=by have:=K1 its k.toNat [];rw[A4E] at this;exact this
 have hln:(List.replicate k.toNat its).flatten.length=its.length*k.toNat:=by rw[Oi,A4F]
 refine A2X (T:="tuple") (U:="int") nofun ⟨_,e,rfl⟩ (λs'=>A3B s' k t) Gs F.fills_int_mul F.slot_int_rmul Gp F.slot_int_index.lookup
  (A2L F.slot_int_rmul (A3B s k t) F.entry_int_rmul (F.args_int_rmul_2 _ _) (Lh k t l its.toArray n dct sl)
   ⟨e,rfl,⟨_,e,rfl⟩,A2L F.slot_tuple_mul ⟨_,e,rfl⟩ F.entry_tuple_mul (F.args_tuple_mul_2 _ _) (a42 l its.toArray n dct sl k t ?_ ?_ ?_ ?_ ?_ ?_) ⟨e,?_⟩⟩)
 . rw[A0R (by omega),A0R (by omega)];exact A0B
 . rw[hem,A0S.mpr (by omega)];exact A0B
 . rw[hem,A0R (by omega)];exact A0B
 . rw[hi];omega
 . rw[hi];unfold Builtin.Tuple.tupleTooMany;rw[decide_eq_false (by rw[sizeLine_eq];omega)];exact Bool.false_ne_true
 . rw[hfl,A0N,hln,A11];omega
 rw[hfl];exact⟨.ref _,_,I.laid (t':=s.toks) (o:=.tup (List.replicate k.toNat xs).flatten) (λb ob e=>A01 _ e) (A0A _) ⟨by rw[Oi,A4F,hl,A11];omega,_,r.rep k.toNat,IsTupN.new _ _⟩,rfl,q (by omega) _ (I.hok.fresh (A0A _))⟩
theorem Q6 (hK:X.K=K:=by ac_nf):OpR X (binaryOp .Mult) (Zu K):=hK ▸ a02
theorem Y5 {l:Addr}{k:Int}{xs:List V}{H:Hp}{Q:VK}(h:SqT K H l xs)(h1:0<=k/\k<=2000)(h2:xs≠[])(h3:xs.length<=100)(c:∀ p H',Same H H'->SqT K H' p (List.replicate k.toNat xs).flatten->Q (.ref p) H'):Zu K (.ref l) (.int k) H Q:=
 ⟨l,k,xs,rfl,rfl,h,h1.1,h1.2,h2,h3,λe=>c l H (.refl H) (by subst e;simpa using h),λ_ p hp=>c p _ (Same.upd hp) (SqT.of Aa)⟩
end
end L2
namespace L2
open PySem PySem.Spec PyProof.Rows
def Fk (K:W.Frag)(g x qual:Str)(st:Stmt):Prop:=∃ f fd,W.nsIn K mainGlobals g=some (some (.ref f))/\Fun K x qual st f fd
section
variable {P:Program}{w:World}{K:W.Frag}{mg:Str->Option Value}{base h:Heap}{g x qual:Str}{st:Stmt}{k:Nat}{ps:List Str}{sp:Sp}
theorem fk_mk {f:Addr}{oc:Value}{od an:Option Addr}{osl:Array (Option Value)}{kV doc pm cdv ct:Value}(a:W.nsIn K mainGlobals g=some (some (.ref f)))(l:K.lookup f=some ⟨oc,od,.func (W.fnOf x qual (Bo st) (Bc st) (A9 st) .none kV doc pm an cdv ct),osl⟩)(c:W.codeIn K cdv qual=true)(e:W.keepIn K (.ref f)=true):Fk K g x qual st:=⟨f,_,a,Tv l c e⟩
theorem Fk.fnd (j:Fk K g x qual st)(X:K.In h)(G:h.Ns mainGlobals mg)(hb:∀ {f fd},Fun K x qual st f fd->Binds K fd ps [])(o:∀ {f fd},Fun K x qual st f fd->mg g=some (.ref f)->W.keepIn K (.ref f)=true->Binds K fd ps []->FnOk P w K mg base CX0 k f fd ps sp):Fnd P w K mg base k g ps sp:=
 let ⟨_,_,a,F⟩:=j
 have m:=A1C X G a
 ⟨_,_,o F m F.kp (hb F),m,F.kp,hb F⟩
theorem Fk.fnd1 (j:Fk K g x qual st)(X:K.In h)(G:h.Ns mainGlobals mg)(hb:∀ {f fd},Fun K x qual st f fd->Binds K fd ps [])(o:∀ {f fd},Fun K x qual st f fd->mg g=some (.ref f)->W.keepIn K (.ref f)=true->Binds K fd ps []->FnOk P w K mg base (CX1 P w) k f fd ps sp):ak3 P w K mg base k g ps sp:=
 let ⟨_,_,a,F⟩:=j
 have m:=A1C X G a
 ⟨_,_,o F m F.kp (hb F),m,F.kp,hb F⟩
def zIn (K:W.Frag)(ns:List Str):Bool:=ns.all λn=>match W.nsIn K mainGlobals n with
 |some none=>true
 |_=>false
theorem O6 {ns:List Str}(z:zIn K ns=true)(X:K.In h)(G:h.Ns mainGlobals mg){n:Str}(hn:n∈ns):mg n=none:=by
 have:=A0W.mp z n hn
 split at this
 . rename_i e;exact W.mg_none_of X G e
 cases this
end
end L2
namespace K50
open PySem L2 PySem.Spec PyProof.Rows
def top (i:Nat):Stmt:=PySem.Challenge.pw_halforder_k50_papers_of_many_rows.main.body.getD i (.Pass ⟨0,0,0,0⟩)
abbrev Dp:Stmt:=top 8
theorem Ba:Ai ["half","names","reach","saying","middle","name"] ["half"] (A9 Dp):=⟨rfl,rfl,rfl,by decide +kernel,rfl,by decide +kernel,by decide +kernel⟩
abbrev Ox:Stmt:=top 10
theorem X2:Ai ["one","other"] ["one","other"] (A9 Ox):=⟨rfl,rfl,rfl,by decide +kernel,rfl,by decide +kernel,by decide +kernel⟩
abbrev Gh:Stmt:=top 12
theorem Oo:Ai ["thing"] ["thing"] (A9 Gh):=⟨rfl,rfl,rfl,by decide +kernel,rfl,by decide +kernel,by decide +kernel⟩
abbrev E1:Stmt:=top 13
theorem Kb:Ai ["thing","size"] ["thing","size"] (A9 E1):=⟨rfl,rfl,rfl,by decide +kernel,rfl,by decide +kernel,by decide +kernel⟩
abbrev Iz:Stmt:=top 17
theorem Qy:Ai ["thing"] ["thing"] (A9 Iz):=⟨rfl,rfl,rfl,by decide +kernel,rfl,by decide +kernel,by decide +kernel⟩
abbrev C5:Stmt:=top 18
theorem Fq:Ai ["thing"] ["thing"] (A9 C5):=⟨rfl,rfl,rfl,by decide +kernel,rfl,by decide +kernel,by decide +kernel⟩
abbrev Ch:Stmt:=top 22
theorem Gy:Ai ["thing"] ["thing"] (A9 Ch):=⟨rfl,rfl,rfl,by decide +kernel,rfl,by decide +kernel,by decide +kernel⟩
abbrev Fm:Stmt:=top 23
theorem Mv:Ai ["thing","names"] ["thing","names"] (A9 Fm):=⟨rfl,rfl,rfl,by decide +kernel,rfl,by decide +kernel,by decide +kernel⟩
abbrev Cw:Stmt:=top 24
theorem Ic:Ai ["thing"] ["thing"] (A9 Cw):=⟨rfl,rfl,rfl,by decide +kernel,rfl,by decide +kernel,by decide +kernel⟩
abbrev Bl:Stmt:=top 25
theorem Bf:Ai ["tale","number","thing"] ["tale"] (A9 Bl):=⟨rfl,rfl,rfl,by decide +kernel,rfl,by decide +kernel,by decide +kernel⟩
abbrev Jq:Stmt:=top 26
theorem R1:Ai ["thing"] ["thing"] (A9 Jq):=⟨rfl,rfl,rfl,by decide +kernel,rfl,by decide +kernel,by decide +kernel⟩
abbrev Gu:Stmt:=top 28
theorem Jw:Ai ["thing","reach"] ["thing"] (A9 Gu):=⟨rfl,rfl,rfl,by decide +kernel,rfl,by decide +kernel,by decide +kernel⟩
abbrev Ff:Stmt:=top 30
theorem Mn:Ai ["reach"] ["reach"] (A9 Ff):=⟨rfl,rfl,rfl,by decide +kernel,rfl,by decide +kernel,by decide +kernel⟩
abbrev F2:Stmt:=top 35
theorem U2:Ai ["reach"] ["reach"] (A9 F2):=⟨rfl,rfl,rfl,by decide +kernel,rfl,by decide +kernel,by decide +kernel⟩
abbrev F0:Stmt:=top 36
theorem Rp:Ai ["reach","names","new"] ["reach","names"] (A9 F0):=⟨rfl,rfl,rfl,by decide +kernel,rfl,by decide +kernel,by decide +kernel⟩
abbrev Fp:Stmt:=top 40
theorem Nn:Ai ["kind","thing","reach"] ["kind","thing","reach"] (A9 Fp):=⟨rfl,rfl,rfl,by decide +kernel,rfl,by decide +kernel,by decide +kernel⟩
abbrev Js:Stmt:=top 41
theorem Ke:Ai ["thing","reach","kinds"] ["thing","reach"] (A9 Js):=⟨rfl,rfl,rfl,by decide +kernel,rfl,by decide +kernel,by decide +kernel⟩
abbrev Jh:Stmt:=top 42
theorem Ez:Ai ["rule","refs","kind","part"] ["rule"] (A9 Jh):=⟨rfl,rfl,rfl,by decide +kernel,rfl,by decide +kernel,by decide +kernel⟩
abbrev Kx:Stmt:=top 44
theorem a26:Ai ["reach","rule","spoken","one","other"] ["reach","rule","spoken"] (A9 Kx):=⟨rfl,rfl,rfl,by decide +kernel,rfl,by decide +kernel,by decide +kernel⟩
abbrev Ja:Stmt:=top 45
theorem Yf:Ai ["reach","rule","spoken","ends"] ["reach","rule","spoken"] (A9 Ja):=⟨rfl,rfl,rfl,by decide +kernel,rfl,by decide +kernel,by decide +kernel⟩
abbrev G0:Stmt:=top 46
theorem V5:Ai ["reach","rule","spoken","one","other"] ["reach","rule","spoken"] (A9 G0):=⟨rfl,rfl,rfl,by decide +kernel,rfl,by decide +kernel,by decide +kernel⟩
abbrev Fd:Stmt:=top 47
theorem Nq:Ai ["reach","rule","spoken"] ["reach","rule","spoken"] (A9 Fd):=⟨rfl,rfl,rfl,by decide +kernel,rfl,by decide +kernel,by decide +kernel⟩
abbrev N5:Stmt:=top 48
theorem a72:Ai ["many","some","found","step"] ["many","some"] (A9 N5):=⟨rfl,rfl,rfl,by decide +kernel,rfl,by decide +kernel,by decide +kernel⟩
abbrev Ed:Stmt:=top 49
theorem Lp:Ai ["reach","rule","spoken","numbers"] ["reach","rule","spoken","numbers"] (A9 Ed):=⟨rfl,rfl,rfl,by decide +kernel,rfl,by decide +kernel,by decide +kernel⟩
abbrev Dd:Stmt:=top 50
theorem K2:Ai ["thing"] ["thing"] (A9 Dd):=⟨rfl,rfl,rfl,by decide +kernel,rfl,by decide +kernel,by decide +kernel⟩
abbrev Hd:Stmt:=top 51
theorem Cu:Ai ["rows","row","reach","reaches","refs","spoken"] ["rows","row","reach","reaches"] (A9 Hd):=⟨rfl,rfl,rfl,by decide +kernel,rfl,by decide +kernel,by decide +kernel⟩
abbrev Eb:Stmt:=top 52
theorem Bj:Ai ["rows","reaches","place","row","reach","word"] ["rows"] (A9 Eb):=⟨rfl,rfl,rfl,by decide +kernel,rfl,by decide +kernel,by decide +kernel⟩
abbrev E7:Stmt:=top 53
theorem Fv:Ai ["half","paper","fault"] ["half","paper"] (A9 E7):=⟨rfl,rfl,rfl,by decide +kernel,rfl,by decide +kernel,by decide +kernel⟩
abbrev Fc:Stmt:=top 55
theorem O0:Ai ["_law_script"] ["_law_script"] (A9 Fc):=⟨rfl,rfl,rfl,by decide +kernel,rfl,by decide +kernel,by decide +kernel⟩
abbrev Fs:Stmt:=top 56
theorem C0:Ai ["_law_feed_here","_law_many","_law_found","_law_cell","_law_mixed"] ["_law_feed_here","_law_many"] (A9 Fs):=⟨rfl,rfl,rfl,by decide +kernel,rfl,by decide +kernel,by decide +kernel⟩
abbrev D5:Stmt:=top 57
theorem Bv:Ai ["_law_feed_here","_law_some","_law_left","_law_found","_law_k"] ["_law_feed_here","_law_some"] (A9 D5):=⟨rfl,rfl,rfl,by decide +kernel,rfl,by decide +kernel,by decide +kernel⟩
abbrev E6:Stmt:=top 58
theorem At:Ai ["_law_feed_here","_law_letters","_law_way","_law_start","_law_size","_law_at","_law_some","_law_head","_law_tail"] ["_law_feed_here"] (A9 E6):=⟨rfl,rfl,rfl,by decide +kernel,rfl,by decide +kernel,by decide +kernel⟩
abbrev Ft:Stmt:=top 59
theorem Bg:Ai ["_law_half","_law_paper","_law_found","e","_law_others"] ["_law_half","_law_paper"] (A9 Ft):=⟨rfl,rfl,rfl,by decide +kernel,rfl,by decide +kernel,by decide +kernel⟩
abbrev Eo:Stmt:=top 60
theorem B1:Ai ["_law_feed_here","_law_row","_law_many","_law_half","_law_rule","_law_some","_law_names_here"] ["_law_feed_here","_law_row","_law_many"] (A9 Eo):=⟨rfl,rfl,rfl,by decide +kernel,rfl,by decide +kernel,by decide +kernel⟩
abbrev Ln:Stmt:=top 61
theorem D7:Ai ["_law_script","_law_feed_here","_law_name","_law_half","_law_other","_law_row","_law_turn","_law_many","_law_paper","_law_due","_law_at","_law_bad","_law_word"] ["_law_script"] (A9 Ln):=⟨rfl,rfl,rfl,by decide +kernel,rfl,by decide +kernel,by decide +kernel⟩
abbrev Bb:Stmt:=a53 (top 4) 0
theorem Jl:Ai ["self","word","row"] ["self","word","row"] (A9 Bb):=⟨rfl,rfl,rfl,by decide +kernel,rfl,by decide +kernel,by decide +kernel⟩
structure Fj (mg:Str->Option Value):Prop where
 g_MOST_NAMES:∃ u,mg "MOST_NAMES" = some u/\RelV (.int 10) u
 g_MOST_ROWS:∃ u,mg "MOST_ROWS" = some u/\RelV (.int 1200) u
 g_MOST_SAYINGS:∃ u,mg "MOST_SAYINGS" = some u/\RelV (.int 60) u
 g_MOST_SIGNS:∃ u,mg "MOST_SIGNS" = some u/\RelV (.int 8) u
 g_SMALL_LETTERS:∃ u,mg "SMALL_LETTERS" = some u/\RelV (.str "abcdefghijklmnopqrstuvwxyz") u
 b_ValueError:mg "ValueError" = none
 b_all:mg "all" = none
 b_any:mg "any" = none
 b_bool:mg "bool" = none
 b_dict:mg "dict" = none
 b_enumerate:mg "enumerate" = none
 b_int:mg "int" = none
 b_isinstance:mg "isinstance" = none
 b_len:mg "len" = none
 b_list:mg "list" = none
 b_range:mg "range" = none
 b_set:mg "set" = none
 b_str:mg "str" = none
 b_sum:mg "sum" = none
 b_tuple:mg "tuple" = none
 b_zip:mg "zip" = none
structure Jo (P:Program)(w:World)(K:W.Frag)(mg:Str->Option Value)(a RULES_t0 RULES_t1 RULES_t2 RULES_t3 RULES_t4 RULES_t5 RULES_t6 RULES_t7:Addr):Prop where
 gl:mg "RULES" = some (.ref a)
 kd:KD P w K a [(Sum.inr "row",V.ref RULES_t0),(Sum.inr "ask",V.ref RULES_t1),(Sum.inr "last",V.ref RULES_t2),(Sum.inr "first",V.ref RULES_t3),(Sum.inr "above",V.ref RULES_t4),(Sum.inr "beside",V.ref RULES_t5),(Sum.inr "turned",V.ref RULES_t6),(Sum.inr "called",V.ref RULES_t7)]
 q_row:∀ H,SqT K H RULES_t0 []
 q_ask:∀ H,SqT K H RULES_t1 [.str "name",.str "name",.str "number",.str "number"]
 q_last:∀ H,SqT K H RULES_t2 [.str "numbers"]
 q_first:∀ H,SqT K H RULES_t3 [.str "numbers"]
 q_above:∀ H,SqT K H RULES_t4 [.str "number",.str "number"]
 q_beside:∀ H,SqT K H RULES_t5 [.str "number",.str "number"]
 q_turned:∀ H,SqT K H RULES_t6 [.str "number"]
 q_called:∀ H,SqT K H RULES_t7 [.str "names",.str "number"]
structure Cp (K:W.Frag)(mg:Str->Option Value)(C B:Addr):Prop where
 xc:XC K C
 gl:mg "HalfError" = some (.ref C)
 mk0:Mkx0 K mg C "HalfError"
structure Kj (K:W.Frag)(mg:Str->Option Value)(C B:Addr):Prop where
 xc:XC K C
 gl:mg "NoHalf" = some (.ref C)
 mr:Gv K C B=true
 n_word:C6 K C "word"
 n_number:C6 K C "number"
structure Hb (K:W.Frag)(mg:Str->Option Value)(C B:Addr):Prop where
 xc:XC K C
 gl:mg "NoName" = some (.ref C)
 mr:Gv K C B=true
 n_name:C6 K C "name"
structure Ds (K:W.Frag)(mg:Str->Option Value)(C B:Addr):Prop where
 xc:XC K C
 gl:mg "NoPaper" = some (.ref C)
 mr:Gv K C B=true
 n_word:C6 K C "word"
 n_row:C6 K C "row"
structure Km (K:W.Frag)(mg:Str->Option Value)(C B:Addr):Prop where
 xc:XC K C
 gl:mg "NoPlan" = some (.ref C)
 mr:Gv K C B=true
 n_word:C6 K C "word"
 n_path:C6 K C "path"
structure Jb (K:W.Frag)(mg:Str->Option Value)(C B:Addr):Prop where
 xc:XC K C
 gl:mg "NoBound" = some (.ref C)
 mr:Gv K C B=true
 n_word:C6 K C "word"
 n_row:C6 K C "row"
section
variable {P:Program}{w:World}{K:W.Frag}{mg:Str->Option Value}{base:Heap}
local macro_rules | `(tactic| walk_at "lk") => L2.mRows "as | Same.lk e h: e=as h=lk | ExtBut.lk e h n: e=as n=ne h=lk | no"
local macro_rules | `(tactic| walk_at "ne") => L2.mRows "as | Ne.symm q: q=as | ne_of_none h g: g=as h=lk | ne_none2 h g: g=as h=lk | ne_of h g z: h=as g=as z=nc | no"
local macro_rules | `(tactic| walk_at "nc") => `(tactic| (intro z; cases z))
local macro_rules | `(tactic| walk_at "fr") => L2.mRows "ExtBut.refl | ExtBut.trans a b: b=as a=fr | ExtBut.same a b: b=as a=fr | ExtBut.off a q b: b=as q=as a=fr | no"
local macro_rules | `(tactic| walk_at "sm") => L2.mRows "same_refl | Same.trans a b: b=as a=sm | Same.off a q b: b=as q=as a=sm | no"
local macro_rules | `(tactic| walk_at "fd") => L2.mRows "as | Feed.same h e: e=as h=fd | Feed.off h e q f: e=as q=as f=as h=fd | no"
local macro_rules | `(tactic| walk_at "fz1") => L2.mRows "Same.fz b: b=as | ExtBut.fzL b l: b=as l=lk | ExtBut.fzD b l: b=as l=lk | Feed.fz f b: b=as f=fd | no"
local macro_rules | `(tactic| walk_at "fz") => L2.mRows "fz_refl | Fz.trans a x: x=fz1 a=fz | no"
local macro_rules | `(tactic| walk_at "sd") => `(tactic| first | omega | (show (0 : Int) < _; omega) | (unfold an5; omega) | (unfold CMul; omega) | (unfold am3; omega) | (unfold am3; decide) | (refine ⟨?_, ?_⟩ <;> omega) | decide)
local macro_rules | `(tactic| walk_at "sz") => `(tactic| first | decide | exact A5 (by omega) | (rw [sizeLine_eq]; omega))
local macro_rules | `(tactic| walk_at "kv") => `(tactic| rfl)
local macro_rules | `(tactic| walk_at "rq1") => do
 let a <- L2.mAlts "i_asg i_gname i_ret i_drop i_if i_op i_un i_call i_cb i_cons i_nil i_c i_put i_tTest i_tB i_not i_and i_or i_tup i_lst i_next i_sl i_noPart i_part i_int i_for i_rng1 i_rng2 i_comp i_itS i_iany i_ienum i_ienumL i_irev i_chain i_andV i_orV i_notV i_dget1 i_tAt i_sSt i_tMe i_tMk i_tTru i_dget2 i_iDT i_bmT i_rU i_rI0 i_addI i_bl i_bm i_bm0 i_reprKB i_isN i_isNotN i_isB i_isNotB i_true i_tyS i_find i_intB i_inS i_pair i_pair0 iteR iteNR iteNbb itebb iteT iteF iteNT iteNF"
 let b <- L2.mRows "i_var w _: w=kv | i_rI w _: w=sd | i_mulBI w _: w=sd | i_tyLm w _: w=lk | i_ixD w v _: w=lk v=kv | i_eqS w _: w=kv | i_neS w _: w=kv | i_slS w _: w=sz | i_addS w _: w=sz | i_lenS w _: w=sz | i_lenL w _: w=lk | i_lenT w _: w=lk | i_cutN w _: w=ar"
 let c <- L2.mAltG "i_seqAG i_seqDG i_seqPG"
 `(tactic| first | $c:tactic | $a:tactic | $b:tactic)
local macro_rules | `(tactic| walk_at "rd1") => `(tactic| first | with_reducible refine ad4 fun N hN => ?_ | walk_at "rq1")
local macro_rules | `(tactic| walk_at "rq") => `(tactic| repeat (walk_at "rq1"))
local macro_rules | `(tactic| walk_at "rd") => `(tactic| repeat (walk_at "rd1"))
def Cb (l:Addr)(a t u:Int):List (Key×V):=[(Sum.inr "script",.ref l),(Sum.inr "at",.int a),(Sum.inr "left",.int t),(Sum.inr "turn",.int u)]
def Feed (H:Hp)(d l:Addr):Prop:=∃(a t u:Int) (ns:List Int),H d=some (.dK (Cb l a t u))/\H l=some (.lst (ns.map V.int))/\0<=ns.length/\ns.length<=64
def Ec (K:W.Frag):Sp:=λvs H Q _=>∃(a:Addr) (ns:List Int),vs=[.ref a]/\SqL K H a (ns.map V.int)/\ns.length<=63/\∀ d l H',H d=none->H l=none->Same H H'->Feed H' d l->Q (.ref d) H'
def C1 (K:W.Frag):Sp:=λvs H Q _=>∃ d l n,vs=[.ref d,.int n]/\Feed H d l/\0<n/\n<1073741824/\∀ r H',0<=r->r<n->ExtBut d H H'->Feed H' d l->Q (.int r) H'
theorem Td {l:Addr}{a t u:Int}:Cf (Cb l a t u) (Sum.inr "script":Key)=some (.ref l):=by rfl
theorem an2 {l:Addr}{a t u:Int}:Cf (Cb l a t u) (Sum.inr "at":Key)=some (.int a):=by rfl
theorem a27 {l:Addr}{a t u:Int}:Cf (Cb l a t u) (Sum.inr "left":Key)=some (.int t):=by rfl
theorem Zp {l:Addr}{a t u:Int}:Cf (Cb l a t u) (Sum.inr "turn":Key)=some (.int u):=by rfl
local macro_rules | `(tactic| walk_at "kv") => `(tactic| first | exact Td | exact an2 | exact a27 | exact Zp | rfl)
theorem X9 {l:Addr}{a t u x:Int}:D9 (Cb l a t u) (Sum.inr "turn":Key) (.int x)=Cb l a t x:=by rfl
theorem ad1 {l:Addr}{a t u x:Int}:D9 (Cb l a t u) (Sum.inr "at":Key) (.int x)=Cb l x t u:=by rfl
theorem Ps {l:Addr}{a t u x:Int}:D9 (Cb l a t u) (Sum.inr "left":Key) (.int x)=Cb l a x u:=by rfl
theorem Feed.same {H H':Hp}{d l:Addr}(h:Feed H d l)(e:Same H H'):Feed H' d l:=let ⟨a,t,u,ns,h1,h2,h3,h4⟩:=h;⟨a,t,u,ns,e _ _ h1,e _ _ h2,h3,h4⟩
theorem Feed.put {H H':Hp}{d l p:Addr}(h:Feed H d l)(e:ExtBut p H H')(hd:d≠p)(hl:l≠p):Feed H' d l:=let ⟨a,t,u,ns,h1,h2,h3,h4⟩:=h;⟨a,t,u,ns,e _ _ hd h1,e _ _ hl h2,h3,h4⟩
theorem Feed.nd {H:Hp}{d l p:Addr}(h:Feed H d l)(hp:H p=none):d≠p:=let ⟨_,_,_,_,h1,_⟩:=h;ne_of_none h1 hp
theorem Feed.nl {H:Hp}{d l p:Addr}(h:Feed H d l)(hp:H p=none):l≠p:=let ⟨_,_,_,_,_,h2,_⟩:=h;ne_of_none h2 hp
theorem Feed.lst {H:Hp}{d l b:Addr}{xs:List V}(h:Feed H d l)(hb:H b=some (.lst xs)):b≠d:=let ⟨_,_,_,_,h1,_⟩:=h;ne_of hb h1 (by intro z;cases z)
theorem Feed.tup {H:Hp} {d l b:Addr} {xs:List V} (h:Feed H d l) (hb:H b=some (.tup xs)):b≠d:=let ⟨_,_,_,_,h1,_⟩:=h;ne_of hb h1 (by intro z;cases z)
theorem Feed.free {H H':Hp}{d l p:Addr}(h:Feed H' d l)(e:ExtBut d H H')(hp:H' p=none):H p=none:=by
 cases hq:H p with
 |none=>rfl
 |some o=>
   obtain⟨_,_,_,_,h1,_⟩:=h;have n:p≠d:=λq=>by subst q;rw[hp] at h1;cases h1
   rw[e p o n hq] at hp
   cases hp
theorem Feed.fz {H H':Hp}{d l:Addr}(h:Feed H d l)(e:ExtBut d H H'):Fz H H':=let ⟨_,_,_,_,h1,_⟩:=h;e.fzD h1
theorem Feed.off {H H1 H2:Hp}{d l q:Addr}(h:Feed H1 d l)(e:ExtBut q H1 H2)(hq:H q=none)(hF:Feed H d l):Feed H2 d l:=h.put e (hF.nd hq) (hF.nl hq)
theorem N6 {f:Addr}{fd:FuncData}(F:Fun K "_law_draw" "_law_draw" Fs f fd)(T:Fj mg):FnOk P w K mg base CX0 1 f fd ["_law_feed_here","_law_many"] (C1 K):=by
 refine F.ok C0 (λvs H Q E h=>?_) (λcdv A outer s H vs Q E hr h=>?_)
 . obtain⟨d,l,n,rfl,_⟩:=h;rfl
 obtain⟨d,l,n,rfl,⟨a,t,u,ns,hd,hl,h0,h64⟩,hn,hn2,k⟩:=h;have hu:=C4 hr;have hq:=C3 hr;have hld:l≠d:=ne_of hl hd (by intro z;cases z)
 with_reducible refine⟨_,(A2 (Jf hu (pv 0) A7 (Aw (B2 (K:=K)) (Ah (A6 (K:=K) hu) (pv 0) A7 (by ac_rfl)) A3) ⋯)
  (A2 (Ax (Af Ur (Ah (A6 (K:=K) hu) (pv 0) A7 (by ac_rfl)) A3 (Ag _)) (A2 (Ao (i:=2) C0.nd ⋯ (by eq_refl) (Aw Hw (Ah (A6 (K:=K) hu) (pv 0) A7 (by ac_rfl)) (pv 1)))
  (A2 (Jf hu (pv 0) A7 (Aw Im (Ah (A6 (K:=K) hu) (pv 0) A7 (by ac_rfl)) (pv 1)) ⋯)
  (A4 (Ab (pv 2))))) Ac)
  (A2 (Ao (i:=3) C0.nd ⋯ (by eq_refl) A3)
  (A2 (Ax (Af (Gd (K:=K) hq) (Ah (A6 (K:=K) hu) (pv 0) A7 (by ac_rfl)) (Co A1) (Ag _)) (A4 (Ao (i:=3) C0.nd ⋯ (by eq_refl) (Ah (A6 (K:=K) hu) (Ah (A6 (K:=K) hu) (pv 0) A7 (by ac_rfl)) (Aw Hw (Ah (A6 (K:=K) hu) (pv 0) A7 (by ac_rfl)) (A8 (An (K:=K)) ⋯ T.b_len PyProof.Rows.Boot.«len» (A0 (Ah (A6 (K:=K) hu) (pv 0) A7 (by ac_rfl)) A1))) (by ac_rfl)))) Ac)
  (A2 (Jf hu (pv 0) A7 (Aw (B2 (K:=K)) (Ah (A6 (K:=K) hu) (pv 0) A7 (by ac_rfl)) A3) ⋯)
  (A2 (Ax (PW.pt (My (Af Wv (pv 3) (Aw Yu A3 A3) (Ag _)) (Oq (Af a41 (Ah (A6 (K:=K) hu) (pv 0) A7 (by ac_rfl)) (A8 (An (K:=K)) ⋯ T.b_len PyProof.Rows.Boot.«len» (A0 (Ah (A6 (K:=K) hu) (pv 0) A7 (by ac_rfl)) A1)) (Ag _))))) (A2 (Jf hu (pv 0) A7 (Aw Im (pv 3) (pv 1)) ⋯)
  (A4 (Ab (Aw Hw (pv 3) (pv 1))))) Ac)
  (A2 (Ao (i:=4) C0.nd ⋯ (by eq_refl) (Aw Hw (Aw Ct (Aw (B2 (K:=K)) (Aw Hw (pv 3) A3) (Aw Ct A3 (Ah (A6 (K:=K) hu) (pv 0) A7 (by ac_rfl)))) A3) A3))
  (A2 (Ao (i:=4) C0.nd ⋯ (by eq_refl) (Aw Hw (Aw Ct (Aw (B2 (K:=K)) (Aw Im (pv 4) A3) (Aw Ct A3 (Ah (A6 (K:=K) hu) (pv 0) A7 (by ac_rfl)))) A3) A3))
  (A4 (Ab (Aw Hw (Aw Im (pv 4) A3) (pv 1)))))))))))),?_⟩
 symm
 refine Ni hd (by show 4<1000;decide) λH1 e1 hd1=>?_;rw[X9] at hd1;have hl1:H1 l=some (.lst (ns.map V.int)):=e1 _ _ hld hl
 symm
 refine Ki (λht=>?_) (λht=>?_)
 . symm
   refine Ni hd1 (by show 4<1000;decide) λH2 e2 hd2=>?_;rw[Ps] at hd2;have hl2:H2 l=some (.lst (ns.map V.int)):=e2 _ _ hld hl1
   symm
   exact k _ H2 (A3A _ (by omega)) (A2P _ hn) (e1.trans e2) ⟨_,_,_,ns,hd2,hl2,h0,h64⟩
 walk_at "rq"
 with_reducible refine W1 (fun σ' H'=>∃ c:Int,σ'=[some (.ref d),some (.int n),none,some (.int c),none]/\Same H1 H') (λN hN=>?_) (fun σ1 H2 hM=>?_)
 . walk_at "rq";refine Ck nofun λy H2 hy2 e2 h2=>?_;refine U7 (Qd (e2.seq (SqL.of hl1))) (Qd (ns:=[]) (SqL.of h2)) (W.ke_shaped_ints ns) (W.ke_shaped_ints []) ?_;walk_at "rq";refine am6 (λhc=>?_) (λhc=>?_)
   . have hpos:0<ns.length:=by
      cases ns with
      |nil=>simp[PyData.eqv,PyData.eqvAll] at hc
      |cons=>simp
     have hl2:=e2 _ _ hl1;have hd2:=e2 _ _ hd1;walk_at "rq";have hlen:(0:Int)<((ns.map V.int).length:Nat):=by rw[A05];omega
     refine i_rI hlen ?_;have hm0:0<=a % (((ns.map V.int).length:Nat):Int):=A3A _ (by omega);have hm1:=A2P a hlen
     obtain⟨c,hc⟩:∃ c,(ns.map V.int)[(a % (((ns.map V.int).length:Nat):Int)).toNat]? = some (V.int c):=by refine⟨ns[(a % (((ns.map V.int).length:Nat):Int)).toNat]'(by rw[A05] at *;omega),?_⟩;rw[A0G,A03];rfl
     refine Qq hl2 (by have:=B0 hc;rwa[A31 hm0] at this) ?_
     walk_at "rq";exact hN _ _ ⟨c,rfl,e2⟩
   walk_at "rq";exact hN _ _ ⟨0,rfl,e2⟩
 obtain⟨c,rfl,e2⟩:=hM;have hd2:=e2 _ _ hd1;have hl2:=e2 _ _ hl1;have e12:ExtBut d H H2:=e1.same e2
 symm
 refine Ni hd2 (by show 4<1000;decide) λH3 e3 hd3=>?_;rw[ad1] at hd3;have hl3:H3 l=some (.lst (ns.map V.int)):=e3 _ _ hld hl2;have fin:∀ r:Int,0<=r->r<n->Q (.int r) H3:=λr h1 h2=>k r H3 h1 h2 (e12.trans e3) ⟨_,_,_,ns,hd3,hl3,h0,h64⟩;have take:∀ r x:Int,0<=r->r<n->∀ H4,ExtBut d H3 H4->H4 d=some (.dK (Cb l (a+1) x (u+1)))->Q (.int r) H4:=λr x h1 h2 H4 e4 h4=>k r H4 h1 h2 ((e12.trans e3).trans e4) ⟨_,_,_,ns,h4,e4 _ _ hld hl3,h0,h64⟩
 symm
 refine Ki (λhc=>?_) (λhc=>?_)
 . symm
   refine Ki (λhc2=>?_) (λhc2=>?_)
   . symm
     refine Ni hd3 (by show 4<1000;decide) λH4 e4 hd4=>?_;rw[Ps] at hd4
     symm
     exact take _ _ (A3A _ (by omega)) (A2P _ hn) H4 e4 hd4
   symm
   exact fin _ (A3A _ (by omega)) (A2P _ hn)
 symm
 exact fin _ (A3A _ (by omega)) (A2P _ hn)
theorem Nd {f:Addr}{fd:FuncData}(F:Fun K "_law_feed" "_law_feed" Fc f fd)(T:Fj mg):FnOk P w K mg base CX0 1 f fd ["_law_script"] (Ec K):=by
 refine F.ok O0 (λvs H Q E h=>?_) (λcdv A outer s H vs Q E hr h=>?_)
 . obtain⟨a,ns,rfl,_⟩:=h;rfl
 obtain⟨a,ns,rfl,hS,h63,k⟩:=h;have hu:=C4 hr;have hq:=C3 hr
 with_reducible refine⟨_,(A4 (Ab (a29 (Ih A7 (Iw (Kr (K:=K)) ⋯ T.b_list PyProof.Rows.Boot.«list» (A0 (Cd (V8 (K:=K)) (pv 0) Fh (C8 A3)) A1)) (Ih A7 A3 (Ih A7 A3 (Ih A7 A3 a24)))) ⋯ ⋯ nofun nofun))),?_⟩
 symm
 refine a86 λp H1 hp e1 hp1=>?_
 symm
 have hS1:=e1.seq hS;refine ap4 hS1 λq H2 hq2 e2 hq2'=>?_;rw[Pc nofun,<- List.map_take] at hq2'
 symm
 refine Zd (SqL.of hq2') λv H3 hv3 e3 hv3'=>?_
 symm
 refine Zf [(Sum.inr "script",.ref v),(Sum.inr "at",.int 0),(Sum.inr "left",.int 0),(Sum.inr "turn",.int 0)] (by walk_at "lk") (by rfl) (by show 4<=15;decide) λH4 e4 h4=>?_;have en:H4 p=some (.dK (Cb v 0 0 0)):=h4;refine k p v H4 hp (e1.free (e2.free hv3)) (λb o hb=>e4 b o (ne_of_none hb hp) (e3 _ _ (e2 _ _ (e1 _ _ hb)))) ⟨0,0,0,_,en,e4 _ _ (Ne.symm (ne_of_none (e2 _ _ hp1) hv3)) hv3',A2R _,?_⟩;rw[A17];omega
def Cj (K:W.Frag):Sp:=λvs H Q _=>∃ d l a xs,vs=[.ref d,.ref a]/\Feed H d l/\(SqL K H a xs\/SqT K H a xs)/\xs.length<=1000/\∀ p ys H',H p=none->ExtBut d H H'->Feed H' d l->H' p=some (.lst ys)->ys.Perm xs->Q (.ref p) H'
theorem Ib {f:Addr}{fd:FuncData}(F:Fun K "_law_shuffled" "_law_shuffled" D5 f fd)(T:Fj mg)(Aj:Fnd P w K mg base 1 "_law_draw" ["_law_feed_here","_law_many"] (C1 K)):FnOk P w K mg base CX0 2 f fd ["_law_feed_here","_law_some"] (Cj K):=by
 refine F.ok Bv (λvs H Q E h=>?_) (λcdv A outer s H vs Q E hr h=>?_)
 . obtain⟨d,l,a,xs,rfl,_⟩:=h;rfl
 obtain⟨d,l,a,xs,rfl,hF,hS,hx,k⟩:=h;have hu:=C4 hr;have hq:=C3 hr
 with_reducible refine⟨_,(A2 (Ao (i:=2) Bv.nd ⋯ (by eq_refl) (Iw (Kr (K:=K)) ⋯ T.b_list PyProof.Rows.Boot.«list» (A0 (pv 1) A1)))
  (A2 (Ao (i:=3) Bv.nd ⋯ (by eq_refl) (Co A1))
  (A2 (Hv A2C ⋯ (Gb ⋯ T.b_range (A0 (A8 (An (K:=K)) ⋯ T.b_len PyProof.Rows.Boot.«len» (A0 (pv 2) A1)) A1)) (Aq (i:=4) Bv.nd ⋯ (by eq_refl))
  (A4 (Jj (Kc (K:=K) A2K A40 A41 (mm G8) (pv 3) (A0 (Kc (K:=K) A2K PySem.F.slot_list_pop PySem.F.type_list_pop (mm Xd) (pv 2) (A0 (As Aj (hr.mono nofun) ⋯ (A0 (pv 0) (A0 (A8 (An (K:=K)) ⋯ T.b_len PyProof.Rows.Boot.«len» (A0 (pv 2) A1)) A1))) A1)) A1)))))
  (A4 (Ab (pv 3)))))),?_⟩
 symm
 refine Zt hS λq H1 hq1 e1 h1=>?_
 symm
 refine Ck nofun λp H2 hp2 e2 h2=>?_
 symm
 refine Q4 (by omega) ?_;have hp0:H p=none:=e1.free hp2;have hpq:p≠q:=λz=>by subst z;rw[h1] at hp2;cases hp2
 refine Tf Ex (λi σ H3=>∃ us vs x4,σ=[some (.ref d),some (.ref a),some (.ref q),some (.ref p),x4]/\ExtBut d H H3/\Feed H3 d l/\H3 q=some (.lst us)/\H3 p=some (.lst vs)/\(vs++us).Perm xs/\us.length+i=xs.length/\vs.length=i)
  ⟨xs,[],none,rfl,by walk_at "fr",by walk_at "fd",by walk_at "lk",h2,by simp,rfl,rfl⟩ (λ_ _ _ _=>trivial) (λi x σ H3 hx3 hi hP=>?_) (fun σ H3 hP=>?_)
 . obtain⟨us,vs,x4,rfl,e3,hF3,h3q,h3p,hperm,hlen,hvl⟩:=hP;obtain⟨rfl,hi2⟩:=Lx hx3;have hi3:i<xs.length:=by simpa using hi2
   symm
   refine⟨d,l,_,rfl,hF3,by omega,by omega,λr H4 hr0 hr1 e4 hF4=>?_⟩;have h4q:H4 q=some (.lst us):=e4 _ _ (hF3.lst h3q) h3q;have h4p:H4 p=some (.lst vs):=e4 _ _ (hF3.lst h3p) h3p;have hr2:r.toNat<us.length:=by omega
   symm
   refine Xe h4q hr0 (A03 hr2) (λH5 e5 h5q=>?_) (by omega);have h5p:H5 p=some (.lst vs):=e5 _ _ hpq h4p
   symm
   refine Tg h5p (by omega) λH6 e6 h6p=>?_
   symm
   refine⟨us.eraseIdx r.toNat,vs++[us[r.toNat]],_,rfl,by walk_at "fr",(hF4.put e5 (hF.nd hq1) (hF.nl hq1)).put e6 (hF.nd hp0) (hF.nl hp0),e6 _ _ (Ne.symm hpq) h5q,h6p,?_,?_,by simp[hvl]⟩
   . exact(Vl (A03 hr2) vs).trans hperm
   rw[List.length_eraseIdx,A0Q hr2];omega
 obtain⟨us,vs,x4,rfl,e3,hF3,h3q,h3p,hperm,hlen,hvl⟩:=hP
 symm
 have hu0:us=[]:=by rw[A05,A3V] at hlen;exact A0Y.mp (by omega)
 subst hu0;rw[A33] at hperm;exact k p vs H3 hp0 e3 hF3 h3p hperm
structure NamesO (ns:List Str):Prop where
 nm:Names ns
 ot:("other":Str)∉ns
theorem NamesO.perm {ns ms:List Str}(h:NamesO ns)(p:ms.Perm ns):NamesO ms:=⟨h.nm.perm p,λq=>h.ot (p.mem_iff.mp q)⟩
def otN:List Nat:=[111,116,104,101,114]
theorem a92:("other":Str)=txt otN:=by decide +kernel
theorem Nu {ls:List (List Nat)}(h:Names (ls.map txt))(h1:otN∉ls):NamesO (ls.map txt):=⟨h,λq=>by rw[a92] at q;obtain⟨l,hl,e⟩:=A09.mp q;exact h1 (Sc e ▸ hl)⟩
theorem ot40:∀ s<26,∀ a<5,otN∉Yj s 5 a:=by decide +kernel
theorem ot41:∀ s<26,otN∉a07 s:=by decide +kernel
theorem X5 {s z a:Nat}(hs:s<26)(ha:a<z)(hz:z<=8):NamesO ((Yj s z a).map txt):=Nu (a39 hs ha hz) λq=>by obtain rfl:5=z:=ap8 hs ha hz q;exact ot40 s hs a ha q
theorem Wq {s:Nat}(hs:s<26):NamesO ((a07 s).map txt):=Nu (a50 hs) (ot41 s hs)
theorem X3:NamesO ao2:=⟨a05,by decide +kernel⟩
def Dx (K:W.Frag):Sp:=λvs H Q _=>∃ d l,vs=[.ref d]/\Feed H d l/\∀ p ns H',H p=none->ExtBut d H H'->Feed H' d l->H' p=some (.lst (ns.map V.str))->NamesO ns->ns.length=10->Q (.ref p) H'
def MN (H:Hp)(d l:Addr)(way st sz at':Int):L2.St->Hp->Prop:=fun σ' H'=>∃ p ns x7 x8,σ'=[some (V.ref d),some (.str LL),some (.int way),some (.int st),some (.int sz),some (.int at'),some (.ref p),x7,x8]/\ExtBut d H H'/\Feed H' d l/\H' p=some (.lst (ns.map V.str))/\NamesO ns/\ns.length=10
theorem M1 {f:Addr}{fd:FuncData}(F:Fun K "_law_names" "_law_names" E6 f fd)(T:Fj mg)(Aj:Fnd P w K mg base 1 "_law_draw" ["_law_feed_here","_law_many"] (C1 K))(D3:Fnd P w K mg base 2 "_law_shuffled" ["_law_feed_here","_law_some"] (Cj K)):FnOk P w K mg base CX0 3 f fd ["_law_feed_here"] (Dx K):=by
 refine F.ok At (λvs H Q E h=>?_) (λcdv A outer s H vs Q E hr h=>?_)
 . obtain⟨d,l,rfl,_⟩:=h;rfl
 obtain⟨d,l,rfl,hF,k⟩:=h;have hu:=C4 hr;have hq:=C3 hr
 with_reducible refine⟨_,(A2 (Ao (i:=1) At.nd ⋯ (by with_unfolding_all exact Or.inr rfl) (Aw Ct A7 A3))
  (A2 (Ao (i:=2) At.nd ⋯ (by eq_refl) (As Aj (hr.mono nofun) ⋯ (A0 (pv 0) (A0 A3 A1))))
  (A2 (Ao (i:=3) At.nd ⋯ (by with_unfolding_all exact Or.inr rfl) (As Aj (hr.mono nofun) ⋯ (A0 (pv 0) (A0 A3 A1))))
  (A2 (Ao (i:=4) At.nd ⋯ (by eq_refl) (As Aj (hr.mono nofun) ⋯ (A0 (pv 0) (A0 A3 A1))))
  (A2 (Ao (i:=5) At.nd ⋯ (by eq_refl) (As Aj (hr.mono nofun) ⋯ (A0 (pv 0) (A0 (Aw (B2 (K:=K)) (pv 4) A3) A1))))
  (A2 (Ao (i:=6) At.nd ⋯ (by eq_refl) (Co (A0 A7 (A0 A7 (A0 A7 (A0 A7 (A0 A7 (A0 A7 (A0 A7 (A0 A7 (A0 A7 (A0 A7 A1))))))))))))
  (A2 (Ax (Af (B5 (K:=K) hq) (pv 2) A3 (Ag _)) (A2 (Ao (i:=7) At.nd ⋯ (by with_unfolding_all exact Or.inr rfl) (Cd (V8 (K:=K)) (pv 1) (C8 (pv 3)) (C8 (Aw (B2 (K:=K)) (pv 3) (pv 5)))))
  (A2 (Ao (i:=8) At.nd ⋯ (by with_unfolding_all exact Or.inr rfl) (Cd (V8 (K:=K)) (pv 1) (C8 (pv 3)) (C8 (Aw P6 (Aw (B2 (K:=K)) (pv 3) (pv 4)) (pv 5)))))
  (A4 (Hj (i:=6) ["_law_k"] ["_law_head","_law_letters","_law_tail"] [7,1,8] ⋯ ⋯ ⋯ At.nd ⋯ ⋯ (Gb ⋯ T.b_range (A0 A3 A1)) (λ_ _ _ _=>(Aq (i:=0) (by with_unfolding_all (show(["_law_k","_law_head","_law_letters","_law_tail"]:List Str).Nodup;decide +kernel)) ⋯ (by eq_refl))) (By nofun) (λ_ _ _ _=>Bn) (λ_ _ _ _=>(Aw (B2 (K:=K)) (Aw (B2 (K:=K)) (pv 1) (Ah (A6 (K:=K) hu) (pv 2) (Aw Hw (Aw Ct A3 (pv 0)) A3) (by ac_rfl))) (pv 3))))))) Ac)
  (A2 (Ax (Af (B5 (K:=K) hq) (pv 2) A3 (Ag _)) (A4 (Ao (i:=6) At.nd ⋯ (by eq_refl) (Aw (B2 (K:=K)) (Ca ["_law_k"] ["_law_letters","_law_start"] [1,3] ⋯ ⋯ ⋯ (Gb ⋯ T.b_range (A0 A3 A1)) (λ_ _ _ _=>(Aq (i:=0) (by with_unfolding_all (show(["_law_k","_law_letters","_law_start"]:List Str).Nodup;decide +kernel)) ⋯ (by eq_refl))) (By nofun) (λ_ _ _ _=>Bn) (λ_ _ _ _=>(Cd (V8 (K:=K)) (pv 1) (C8 (pv 2)) (C8 (Aw (B2 (K:=K)) (Aw (B2 (K:=K)) (pv 2) A3) (pv 0)))))) (Co (A0 (Ah (A6 (K:=K) hu) (pv 1) (Aw (B2 (K:=K)) (pv 3) A3) (by ac_rfl)) (A0 (Ah (A6 (K:=K) hu) (pv 1) (Aw (B2 (K:=K)) (pv 3) A3) (by ac_rfl)) A1)))))) Ac)
  (A4 (Ab (As D3 (hr.mono nofun) ⋯ (A0 (pv 0) (A0 (pv 6) A1))))))))))))),?_⟩
 symm
 refine a09 nofun ?_;rw[aa9]
 symm
 refine⟨d,l,_,rfl,hF,by omega,by omega,λway H1 hw0 hw1 e1 hF1=>?_⟩
 symm
 refine⟨d,l,_,rfl,hF1,by omega,by omega,λst H2 hs0 hs1 e2 hF2=>?_⟩
 symm
 refine⟨d,l,_,rfl,hF2,by omega,by omega,λsz H3 hz0 hz1 e3 hF3=>?_⟩
 symm
 refine⟨d,l,_,rfl,hF3,by omega,by omega,λat' H4 ha0 ha1 e4 hF4=>?_⟩
 symm
 refine Ck nofun λp5 H5 hp5 e5 h5=>?_;walk_at "rq";have fr4:ExtBut d H H4:=by walk_at "fr"
 have hF5:Feed H5 d l:=by walk_at "fd"
 with_reducible refine W1 (MN H d l way st sz at') (λN hN=>?_) (fun σ1 H6 hM=>?_)
 . walk_at "rq";refine Ki (λhw=>?_) (λhw=>?_)
   . walk_at "rq";refine Q4 (by omega) ?_;have c1:=Rn (i:=st) (j:=st+at') hs0 (by omega) (by omega);have c2:=Rn (i:=st) (j:=st+sz-at') (by omega) (by omega) (by omega);rw[c1,c2];refine Lz Ex (fI λk=>.str (txt (L7 st.toNat (st+at').toNat)++txt (M3 (7*k % 26).toNat)++txt (L7 st.toNat (st+sz-at').toNat))) ∅ (λ_ _=>trivial) (λi x H8 R hx e8 hR=>?_) (λp8 H8 hp8 e8 h8=>?_)
     . obtain⟨rfl,hi⟩:=Lx hx;have hm0:=A3A (7*(0+(i:Int))) (show(26:Int)≠0 by decide);have hm1:=A2P (7*(0+(i:Int))) (show(0:Int)<26 by decide);obtain⟨c,hc,ec⟩:=Z3 (i:=7*(0+(i:Int)) % 26) (by omega) (by omega);walk_at "rq";refine a57 Oj hc ?_;rw[ec];have l1:(txt (L7 st.toNat (st+at').toNat)).length<=52:=by show(L7 _ _).toArray.size<=_;unfold L7;simp[Gk];omega
       have l2:(txt (L7 st.toNat (st+sz-at').toNat)).length<=52:=by show(L7 _ _).toArray.size<=_;unfold L7;simp[Gk];omega
       have l3:(txt (M3 (7*(0+(i:Int)) % 26).toNat)).length<=52:=by show(M3 _).toArray.size<=_;unfold M3;simp[Gk];omega
       refine i_addS (A5 (by omega)) ?_;have l4:(txt (L7 st.toNat (st+at').toNat)++txt (M3 (7*(0+(i:Int)) % 26).toNat)).length<=104:=by rw[Str.length_append];omega
       walk_at "rq";exact hR
     rw[Ua (G:=λk=>txt (L7 st.toNat (st.toNat+at'.toNat)++M3 (7*k % 26)++L7 st.toNat (st.toNat+(1+sz).toNat-at'.toNat-1))) (λk hk=>by
      have q1:(st+at').toNat=st.toNat+at'.toNat:=by omega
      have q2:(7*(0+(k:Int)) % 26).toNat=7*k % 26:=by omega
      have q4:(st+sz-at').toNat=st.toNat+(1+sz).toNat-at'.toNat-1:=by omega
      rw[q1,q2,q4,Ul,Ul])] at h8
     walk_at "rq";refine hN _ _ ⟨p8,(Yj st.toNat (1+sz).toNat at'.toNat).map txt,_,_,rfl,by walk_at "fr",by walk_at "fd",?_,X5 (by omega) (by omega) (by omega),by simp[Yj]⟩;rw[h8];simp[Yj,Function.comp_def]
   walk_at "rq";refine hN _ _ ⟨p5,ao2,none,none,rfl,by walk_at "fr",hF5,h5,X3,rfl⟩
 obtain⟨p,ns,x7,x8,rfl,e6,hF6,h6,hN6,hl6⟩:=hM
 with_reducible refine W1 (MN H d l way st sz at') (λN hN=>?_) (fun σ1 H7 hM=>?_)
 . walk_at "rq";refine Ki (λhw=>?_) (λhw=>?_)
   . walk_at "rq";refine Q4 (by omega) ?_;refine Lz Ex (fI λk=>.str (Txt.slice LL (some st) (some (st+1+k)))) ∅ (λ_ _=>trivial) (λi x H6 R hx e6 hR=>?_) (λp6 H7 hp6 e7 h7=>?_)
     . obtain⟨rfl,hi⟩:=Lx hx;walk_at "rq";exact hR
     rw[Ua (G:=λk=>txt (L7 st.toNat (st.toNat+1+k))) (λk hk=>by
      have e:=Rn (i:=st) (j:=st+1+(0+(k:Int))) hs0 (by omega) (by have:((8:Int)).toNat=8:=rfl;omega);have e2:(st+1+(0+(k:Int))).toNat=st.toNat+1+k:=by omega
      rw[e2] at e;rw[e])] at h7
     obtain⟨c9,hc9,e9⟩:=Z3 (i:=st+9) (by omega) (by omega);obtain⟨c11,hc11,e11⟩:=Z3 (i:=st+11) (by omega) (by omega);walk_at "rq";refine a57 Oj hc9 ?_;walk_at "rq";refine a57 Oj hc11 ?_;walk_at "rq";refine Ck (A5 ∅) λp8 H8 hp8 e8 h8=>?_;refine M5 (by walk_at "lk") h8 (by simp[sizeLine_eq]) λp9 H9 hp9 e9' h9=>?_;walk_at "rq";refine hN _ _ ⟨p9,(a07 st.toNat).map txt,_,_,rfl,by walk_at "fr",by walk_at "fd",?_,Wq (by omega),by simp[a07]⟩;rw[h9,e9,e11];have q9:(st+9).toNat=st.toNat+9:=by omega
     have q10:(st+11).toNat=st.toNat+11:=by omega
     rw[q9,q10];simp[a07,Function.comp_def]
   walk_at "rq";exact hN _ _ ⟨p,ns,x7,x8,rfl,e6,hF6,h6,hN6,hl6⟩
 obtain⟨p2,ms,y7,y8,rfl,e8,hF8,h8,hN8,hl8⟩:=hM
 symm
 refine⟨d,l,p2,_,rfl,hF8,.inl (SqL.of h8),by rw[A05];omega,λp9 ys9 H9 hp9 e9 hF9 h9 hperm=>?_⟩;obtain⟨ls,rfl,hpm⟩:=Ri hperm;exact k p9 ls H9 (hF8.free e8 hp9) (e8.trans e9) hF9 h9 (hN8.perm hpm) (by rw[hpm.length_eq,hl8])
def a67:PyData->Bool
 |.tuple _=>true
 |_=>false
def an1:PyData->Bool
 |.str _=>true
 |_=>false
theorem Hy {K:W.Frag}{H:Hp}{Q:VK}{D:PyData}{v:V}(h:Is K H D v)(k:Q (.bl (a67 D)) H):Dz K [v,.ty "tuple"] H Q:=by
 cases D with
 |none=>simp only[Is] at h;subst h;exact E5 .non (b:=false) (by rfl) k
 |bool b=>simp only[Is] at h;subst h;exact E5 (.bl b) (b:=false) (by rfl) k
 |int b=>simp only[Is] at h;subst h;exact E5 (.int b) (b:=false) (by rfl) k
 |str b=>simp only[Is] at h;subst h;exact E5 (.str b) (b:=false) (by rfl) k
 |list ds=>simp only[Is] at h;obtain⟨a,xs,rfl,h1,_⟩:=h;exact Pq h1 (b:=false) (by rfl) k
 |tuple ds=>simp only[Is] at h;obtain⟨a,xs,rfl,h1,_⟩:=h;exact Q0 h1 (b:=true) (by rfl) k
 |dict _=>simp only[Is] at h
theorem ab9 {K:W.Frag}{H:Hp}{Q:VK}{D:PyData}{v:V}(h:Is K H D v)(k:Q (.bl (an1 D)) H):Dz K [v,.ty "str"] H Q:=by
 cases D with
 |none=>simp only[Is] at h;subst h;exact E5 .non (b:=false) (by rfl) k
 |bool b=>simp only[Is] at h;subst h;exact E5 (.bl b) (b:=false) (by rfl) k
 |int b=>simp only[Is] at h;subst h;exact E5 (.int b) (b:=false) (by rfl) k
 |str b=>simp only[Is] at h;subst h;exact E5 (.str b) (b:=true) (by rfl) k
 |list ds=>simp only[Is] at h;obtain⟨a,xs,rfl,h1,_⟩:=h;exact Pq h1 (b:=false) (by rfl) k
 |tuple ds=>simp only[Is] at h;obtain⟨a,xs,rfl,h1,_⟩:=h;exact Q0 h1 (b:=false) (by rfl) k
 |dict _=>simp only[Is] at h
def OddL (K:PySem.W.Frag)(H:Hp)(p:Addr)(n w W N0:Nat):Prop:=∃ ys es,H p=some (.lst ys)/\IsL K H es ys/\(∀ e∈es,Dk n w W e)/\es≠[]/\es.length<=N0
theorem OddL.le {K:PySem.W.Frag}{H:Hp}{p:Addr}{n w W N0 N1:Nat}(h:OddL K H p n w W N0)(h1:N0<=N1):OddL K H p n w W N1:=let ⟨ys,es,a,b,c,d,e⟩:=h;⟨ys,es,a,b,c,d,A0P e h1⟩
def Ze (K:PySem.W.Frag):Sp:=λvs H Q _=>∃ d l v D n w W,vs=[.ref d,v]/\Feed H d l/\Is K H D v/\Dk n w W D/\n<=20/\w<=100000/\2<=W/\∀ v' D' H',ExtBut d H H'->Feed H' d l->Is K H' D' v'->Dk (n+2) (2*w+200) (W+1) D'->Q v' H'
theorem oddC_ok:∀ e∈[PyData.none,.bool true,.bool false,.int (-1),.int 0,.int 1,.int (10 ^ 39),.str "",.str "a",.str "A",.str "abcdefghi",.str "a b",.str "a{",.tuple [],.list [],.tuple [.str "a"],.tuple [.str "a",.str "b"]],Dk 2 200 2 e:=by intro e he;simp only[List.mem_cons,List.not_mem_nil,or_false] at he;rcases he with rfl|rfl|rfl|rfl|rfl|rfl|rfl|rfl|rfl|rfl|rfl|rfl|rfl|rfl|rfl|rfl|rfl<;>exact⟨by decide +kernel,by decide +kernel,by decide +kernel,by decide +kernel,by decide +kernel,by decide +kernel,by decide +kernel⟩
theorem aa4:∀ ds:List PyData,ds.length<=PyData.weightAll ds
 | []=>by simp
 |d :: ds=>by have:=aa4 ds;simp only[List.length_cons,PyData.weightAll];omega
theorem a33 {α:Type}{es:List α}{e:α}:∀ {k:Nat},e∈(List.replicate k es).flatten->e∈es
 |0,h=>by cases h
 |k+1,h=>by rw[A1M,A2A] at h;exact(A08.mp h).elim id λh=>a33 h
theorem a04 {K:W.Frag}{H:Hp}{es:List PyData}{ys:List V}(h:IsL K H es ys):∀ k:Nat,IsL K H (List.replicate k es).flatten (List.replicate k ys).flatten
 |0=>.nil
 |k+1=>by rw[A1M,A2A,A1M,A2A];exact IsL.append h (a04 h k)
def am4 (ds:List PyData)(lo hi:Option Int):List PyData:=(ds.drop (HT.sIx ds.length 0 lo)).take (HT.sIx ds.length ds.length hi-HT.sIx ds.length 0 lo)
theorem Zo {K:W.Frag}{H:Hp}:∀ {es:List PyData} {ys:List V},IsL K H es ys->IsL K H es.reverse ys.reverse
 | [],ys,h=>by simp only[L2.IsL] at h;subst h;exact .nil
 |e :: es,ys,h=>by simp only[L2.IsL] at h;obtain⟨v,r,rfl,h1,h2⟩:=h;rw[A3U,A3U];exact IsL.append (Zo h2) (.one h1)
theorem ak0 {z:Str}(h:Asc z):Asc (Txt.slice z none (some (-1)))/\(Txt.slice z none (some (-1))).length<=z.length:=by
 refine⟨λc hc=>?_,Txt.slice_le ..⟩;unfold Txt.slice at hc
 split at hc
 . exact h c hc
 rw[List.toList_toArray] at hc;obtain ⟨i,_,hi⟩:=A4Y.mp hc;exact h c (A4M.mpr (Array.mem_of_getElem? hi))
theorem Vo {K:W.Frag}{H:Hp}{Q:VK}{a:Addr}{xs:List V}(h:SqT K H a xs)(k:Q (.int xs.length) H):Mz K [.ref a] H Q:=.inl ⟨.ref a,_,rfl,.inr ⟨xs,h,rfl⟩,k⟩
theorem Sl:∀ {ds:List PyData} {e:PyData},e∈ds->e.weight<=PyData.weightAll ds
 |d :: ds,e,h=>by
   simp only[PyData.weightAll];rcases A0D.mp h with rfl|h
   . omega
   have:=Sl h;omega
theorem wt_cut (ds:List PyData){t:Int}(h:0<=t):PyData.weightAll (am4 ds none (some t))+PyData.weightAll (am4 ds (some (t+1)) none)<=PyData.weightAll ds:=by
 have e1:HT.sIx ds.length ds.length (some t)=min t.toNat ds.length:=by unfold HT.sIx;simp[show ¬ t<0 by omega]
 have e2:HT.sIx ds.length 0 (some (t+1))=min (t+1).toNat ds.length:=by unfold HT.sIx;simp[show ¬ t+1<0 by omega]
 have e3:HT.sIx ds.length 0 none=0:=rfl;unfold am4;rw[e1,e2,e3,List.drop_zero,Nat.sub_zero];have a:=M9 (ds.take (min t.toNat ds.length)) (ds.drop (min t.toNat ds.length));rw[A4K] at a;have b:=Tj (ds.drop (min t.toNat ds.length)) (min (t+1).toNat ds.length-min t.toNat ds.length);rw[List.drop_drop,show min t.toNat ds.length+(min (t+1).toNat ds.length-min t.toNat ds.length)=min (t+1).toNat ds.length by omega] at b;have c:=Sq (ds.drop (min (t+1).toNat ds.length)) (HT.sIx ds.length ds.length none-min (t+1).toNat ds.length);omega
def Gc (K:PySem.W.Frag)(m:Nat):Sp:=λvs H Q _=>∃(d l:Addr) (v:V) (D:PyData) (n w W j:Nat),vs=[.ref d,v,.int (j:Int)]/\Feed H d l/\Is K H D v/\Dk n w W D/\n<=20/\w<=100000/\2<=W/\j<m/\∀ v' D' H',ExtBut d H H'->Feed H' d l->Is K H' D' v'->Dk (n+2) ((j+2)*w+200+j) (W+1) D'->Q v' H'
theorem Pf {K:PySem.W.Frag}:∀ vs H Q E,¬ Gc K 0 vs H Q E:=λvs H Q E h=>by obtain⟨d,l,v,D,n,w,W,j,_,_,_,_,_,_,_,h,_⟩:=h;omega
def Yt (K:W.Frag):Sp:=Gc K 11
def az:Str:="abcdefghijklmnopqrstuvwxyz"
def Qu (c:Nat):Bool:=!(Builtin.Str.occurrences az ⟨#[c]⟩ 0 az.length 1).isEmpty
def Db (x:Str):Bool:=decide (1<=x.length)&&decide (x.length<=8)&&x.cps.toList.all Qu
def Rk:PyData->Bool
 |.str x=>Db x
 |_=>false
def Ey (K:PySem.W.Frag):Sp:=λvs H Q _=>∃ v D n w W,vs=[v]/\Is K H D v/\Dk n w W D/\w<=1000000/\∀ H',Same H H'->Q (.bl (Rk D)) H'
def To (K:W.Frag):Sp:=Ey K
theorem Xf {D:PyData}(h:an1 D=false):Rk D=false:=by cases D<;>first | rfl | cases h
theorem Ra {f:Addr}{fd:FuncData}(F:Fun K "is_name" "is_name" Iz f fd)(T:Fj mg):FnOk P w K mg base CX0 1 f fd ["thing"] (Ey K):=by
 refine F.ok Qy (λvs H Q E h=>?_) (λcdv A outer s H vs Q E hr h=>?_)
 . obtain⟨v,D,n,w,W,rfl,_⟩:=h;rfl
 obtain⟨v,D,n,w,W,rfl,hI,hD,hw,k⟩:=h;have hu:=C4 hr;have hq:=C3 hr
 with_reducible refine⟨_,(A2 (Ax (D4 (Bt (A8 (Ap (K:=K)) ⋯ T.b_isinstance PyProof.Rows.Boot.«isinstance» (A0 (pv 0) (A0 (Bq (v:=.ty "str") ⋯ T.b_str PyProof.Rows.Boot.«str» ⋯) A1))))) (A4 (Ab Fi)) Ac)
  (A2 (Ax (PW.pt (Ka (Af Qn (A8 (An (K:=K)) ⋯ T.b_len PyProof.Rows.Boot.«len» (A0 (pv 0) A1)) A3 (Ag _)) (Fx (Af Ur (A8 (An (K:=K)) ⋯ T.b_len PyProof.Rows.Boot.«len» (A0 (pv 0) A1)) (Hl ⋯ T.g_MOST_SIGNS) (Ag _))))) (A4 (Ab Fi)) Ac)
  (A4 (Ab (A8 (En (K:=K) ⋯) ⋯ T.b_all PyProof.Rows.Boot.«all» (A0 (Ca ["sign"] [] [] ⋯ ⋯ ⋯ (Bp (K:=K) hu (pv 0)) (λ_ _ _ _=>(Aq (i:=0) (by with_unfolding_all (show(["sign"]:List Str).Nodup;decide +kernel)) ⋯ (by eq_refl))) (By nofun) (λ_ _ _ _=>Bn) (λ_ _ _ _=>(Az (Ga (K:=K) hq) (pv 0) (Hl ⋯ T.g_SMALL_LETTERS) ⋯))) A1)))))),?_⟩
 symm
 cases hT:an1 D with
 |true=>
   obtain⟨x,rfl⟩:∃ z,D = .str z:=by cases D<;>first | exact⟨_,rfl⟩ | cases hT
   have hv:v = .str x:=by simpa only[Is] using hI
   subst hv;have hx:x.length<=1000000:=A0P hD.str.2 hw;have k:∀ H',Same H H'->Q (.bl (Db x)) H':=k;refine E5 (TyOf.str x) (b:=true) (by rfl) ?_
   symm
   refine Ki (λh1=>?_) (λh1=>?_)
   . symm
     have e:Db x=false:=by unfold Db;rw[A0R (by omega:¬ 1<=x.length)];rfl
     have:=k H (Same.refl H);rw[e] at this;exact this
   symm
   refine Ki (λh2=>?_) (λh2=>?_)
   . symm
     have e:Db x=false:=by unfold Db;rw[A0R (by omega:¬ x.length<=8),Bool.and_false];rfl
     have:=k H (Same.refl H);rw[e] at this;exact this
   symm
   refine Lz (Vc x) (λv=>.bl (match v with | .str z=>!(Builtin.Str.occurrences az z 0 az.length 1).isEmpty | _=>false)) (by rw[A05,A30];exact hx) (λ_ _=>trivial) (λi v H1 R hv e hR=>?_) λp H' hp e h=>?_
   . obtain⟨c,rfl,_⟩:=a38 hv
     symm
     exact hR
   symm
   have e1:(x.cps.toList.map λc=>V.str ⟨#[c]⟩).map (λv=>V.bl (match v with | .str z=>!(Builtin.Str.occurrences az z 0 az.length 1).isEmpty | _=>false))=(x.cps.toList.map Qu).map V.bl:=by rw[A2F,A2F];rfl
   rw[e1] at h;refine Vm (SqL.of h) ?_
   have e2:Db x=(x.cps.toList.map Qu).all id:=by unfold Db;rw[A0U (by omega:1<=x.length),A0U (by omega:x.length<=8),List.all_map];rfl
   have:=k H' e;rw[e2] at this;exact this
 |false=>
   have k:=k H (Same.refl H);rw[Xf hT] at k;refine ab9 hI ?_;rw[hT]
   symm
   exact k
theorem a70 {c:Nat}:0<=Txt.find az ⟨#[c]⟩↔Qu c=true:=by
 unfold Txt.find Qu
 cases e:Builtin.Str.occurrences az ⟨#[c]⟩ 0 az.length 1 with
 |nil=>simp
 |cons i r=>simp
theorem Pr {α:Type}[DecidableEq α]:∀ {as bs:List α},as.Nodup->(∀ z∈as,z∈bs)->bs.length<=as.length->as.Perm bs
 | [],bs,_,_,hl=>by rw[A0Y.mp (Nat.le_zero.mp hl)]
 |a :: as,bs,hn,hs,hl=>by have ha:a∈bs:=hs a ∅;obtain⟨h1,h2⟩:=A0T.mp hn;have ih:=Pr (as:=as) (bs:=bs.erase a) h2 (λz hz=>(List.mem_erase_of_ne (λe:z=a=>h1 (by rw[<- e];exact hz))).mpr (hs z (by simp[hz]))) (by rw[List.length_erase_of_mem ha];simp at hl;omega);exact(List.Perm.cons a ih).trans (List.perm_cons_erase ha).symm
def UnD (D:PyData):Prop:=∃ ns:List Str,D=nmD ns/\(∀ z∈ns,Db z=true)/\ns.Nodup
theorem X6 {ds:List PyData}(h:∀ e∈ds,Rk e=true):∃ ns:List Str,ds=ns.map PyData.str/\∀ z∈ns,Db z=true:=by
 induction ds with
 |nil=>exact⟨[],rfl,λz hz=>by cases hz⟩
 |cons d ds ih=>
   obtain⟨ns,rfl,hn⟩:=ih λe he=>h e (A0C _ he);have:=h d ∅
   cases d with
   |str z=>exact⟨z :: ns,rfl,λy hy=>(A0D.mp hy).elim (λe=>by rw[e];exact this) (hn y)⟩
   |_=>cases this
def B8 (K:PySem.W.Frag):Sp:=λvs H Q _=>∃ v D n w W,vs=[v]/\Is K H D v/\Dk n w W D/\w<=1000000/\W<=1000/\∀ b H',Same H H'->(b=true↔UnD D)->Q (.bl b) H'
theorem F9 {f:Addr}{fd:FuncData}(F:Fun K "are_unlike_names" "are_unlike_names" C5 f fd)(T:Fj mg)(Jm:Fnd P w K mg base 1 "is_name" ["thing"] (Ey K)):FnOk P w K mg base CX0 2 f fd ["thing"] (B8 K):=by
 refine F.ok Fq (λvs H Q E h=>?_) (λcdv A outer s H vs Q E hr h=>?_)
 . obtain⟨v,D,n,w,W,rfl,_⟩:=h;rfl
 obtain⟨v,D,n,w,W,rfl,hI,hD,hw,hW,k⟩:=h;have hu:=C4 hr;have hq:=C3 hr
 with_reducible refine⟨_,(A2 (Ax (D4 (Bt (A8 (Ap (K:=K)) ⋯ T.b_isinstance PyProof.Rows.Boot.«isinstance» (A0 (pv 0) (A0 (Bq (v:=.ty "tuple") ⋯ T.b_tuple PyProof.Rows.Boot.«tuple» ⋯) A1))))) (A4 (Ab Fi)) Ac)
  (A2 (Ax (D4 (Bt (A8 (En (K:=K) ⋯) ⋯ T.b_all PyProof.Rows.Boot.«all» (A0 (Ca ["name"] [] [] ⋯ ⋯ ⋯ (Bp (K:=K) hu (pv 0)) (λ_ _ _ _=>(Aq (i:=0) (by with_unfolding_all (show(["name"]:List Str).Nodup;decide +kernel)) ⋯ (by eq_refl))) (By nofun) (λ_ _ _ _=>Bn) (λ_ _ _ _=>(As Jm (hr.mono nofun) ⋯ (A0 (pv 0) A1)))) A1)))) (A4 (Ab Fi)) Ac)
  (A4 (Ab (Az (B5 (K:=K) hq) (Uy (K:=K) hr.hd ⋯ T.b_len ⋯ T.b_set (A0 (pv 0) A1)) (A8 (An (K:=K)) ⋯ T.b_len PyProof.Rows.Boot.«len» (A0 (pv 0) A1)) (Ag _)))))),?_⟩
 symm
 refine Hy hI ?_
 cases hT:a67 D with
 |false=>
   symm
   refine k false H (.refl H) ⟨λh=>(by cases h),λ⟨ns,e,_⟩=>?_⟩;rw[e] at hT
   cases hT
 |true=>
   obtain⟨ds,rfl⟩:∃ ds,D = .tuple ds:=by cases D<;>first | exact⟨_,rfl⟩ | cases hT
   obtain⟨va,xs,rfl,hS,hX⟩:=hI.tup;have hxl:=IsL.length hX;obtain⟨m,rfl⟩:∃ m,n=m+1:=⟨n-1,by have:=hD.dp;simp only[PyData.depth] at this;omega⟩;have hE:=hD.els;have hwl:ds.length<=W:=hE.len
   symm
   refine Ww hS ?_;refine Ii (K:=K) (Il (xs:=xs)) ds hxl Rk (by omega) (λH' e=>e.seqT hS) (λi z xv H1 R hz' hxv e1 hR=>?_) (λq H1 hq1 e1 h1=>?_)
   . obtain⟨d',hd',hIz⟩:=IsL.get (IsL.mono e1 _ _ hX) hxv;rw[hz'] at hd'
     cases hd';have hmem:=A06 hz';obtain⟨uu,huu⟩:=hE.all z hmem
     symm
     exact⟨xv,z,m,w,W,rfl,hIz,⟨huu.asc,huu.lay,huu.sh,huu.lv,huu.dp,A0P (Sl hmem) hE.wt,huu.wd⟩,by omega,hR⟩
   symm
   refine Vm h1 ?_
   cases hA:(ds.map Rk).all id with
   |false=>
     symm
     refine k false H1 e1 ⟨λh=>(by cases h),λ⟨ns,e,hn,_⟩=>?_⟩;injection e with e;subst e;rw[List.all_map,List.all_map] at hA;have:ns.all ((id∘Rk)∘PyData.str)=true:=A0W.mpr λz hz=>hn z hz;rw[this] at hA
     cases hA
   |true=>
     rw[List.all_map,A0W] at hA;obtain⟨ns,rfl,hn⟩:=X6 hA;have exs:=IsL.str_eq hX;subst exs;rw[A05] at hwl
     symm
     refine Vf (e1.seqT hS) (by omega) ?_
     symm
     refine Vo (e1.seqT hS) ?_
     symm
     refine k _ H1 e1 ?_;rw[A2D,A05];constructor
     . intro h;have h:=V.int.inj h;have hlen:(Bk [] ns).length=ns.length:=by omega
       have hp:=Pr (Ce (ms:=ns) (ks:=[]) .nil) (λz hz=>(mem_addAll.mp hz).elim (λh=>by cases h) id) (by omega);exact⟨ns,rfl,hn,hp.nodup_iff.mp (Ce .nil)⟩
     rintro⟨ns',e,_,hnd⟩;have e:ns.map PyData.str=ns'.map PyData.str:=by injection e
     have e2:ns=ns':=by
      have:=congrArg (List.map λd=>match d with | PyData.str z=>z | _=>("":Str)) e
      simpa[List.map_map,Function.comp_def] using this
     rw[e2,Uc hnd]
def TnD (D:PyData):Prop:=∃ ns:List Str,D=nmD ns/\(∀ z∈ns,Db z=true)/\ns.Nodup/\ns.length<=10
def Bh (K:PySem.W.Frag):Sp:=λvs H Q _=>∃ v D n w W,vs=[v]/\Is K H D v/\Dk n w W D/\w<=1000000/\W<=1000/\∀ b H',Same H H'->(b=true↔TnD D)->Q (.bl b) H'
def R8 (K:W.Frag):Sp:=Bh K
theorem Lq {ns ms:List Str}(h:nmD ns=nmD ms):ns=ms:=by
 have e:ns.map PyData.str=ms.map PyData.str:=by injection h
 have:=congrArg (List.map λd=>match d with | PyData.str z=>z | _=>("":Str)) e
 simpa[List.map_map,Function.comp_def] using this
theorem ak4 {ns:List Str}:(!((ns.map λz=>decide (1<ns.countP λy=>decide (y=z))).any id))=true↔ns.Nodup:=by
 have ec:∀ z,(ns.countP λy=>decide (y=z))=ns.count z:=λz=>by unfold List.count;exact List.countP_congr λy _=>by simp
 rw[Bool.not_eq_true',A3S,List.nodup_iff_count];constructor
 . intro h z
   by_cases hz:z∈ns
   . have:=h _ (List.mem_map_of_mem (f:=λz=>decide (1<ns.countP λy=>decide (y=z))) hz);rw[ec] at this;simp at this;omega
   rw[List.count_eq_zero.mpr hz];omega
 intro h b hb;obtain⟨z,hz,rfl⟩:=A09.mp hb;have:=h z;rw[ec];simp;omega
theorem Hk {f:Addr}{fd:FuncData}(F:Fun K "are_tale_names" "are_tale_names" Ch f fd)(T:Fj mg)(Au:Fnd P w K mg base 2 "are_unlike_names" ["thing"] (B8 K)):FnOk P w K mg base CX0 3 f fd ["thing"] (Bh K):=by
 refine F.ok Gy (λvs H Q E h=>?_) (λcdv A outer s H vs Q E hr h=>?_)
 . obtain⟨v,D,n,w,W,rfl,_⟩:=h;rfl
 obtain⟨v,D,n,w,W,rfl,hI,hD,hw,hW,k⟩:=h;have hu:=C4 hr;have hq:=C3 hr
 with_reducible refine⟨_,(A4 (Ab (Cm (As Au (hr.mono nofun) ⋯ (A0 (pv 0) A1)) (Cy (Az a41 (A8 (An (K:=K)) ⋯ T.b_len PyProof.Rows.Boot.«len» (A0 (pv 0) A1)) (Hl ⋯ T.g_MOST_NAMES) (Ag _)))))),?_⟩
 symm
 refine⟨v,D,n,w,W,rfl,hI,hD,hw,hW,λb H1 e1 hb=>?_⟩
 cases b with
 |false=>
   symm
   exact k false H1 e1 ⟨λh=>(by cases h),λ⟨ns,e,h1,h2,_⟩=>hb.mpr ⟨ns,e,h1,h2⟩⟩
 |true=>
   obtain⟨ns,rfl,h1,h2⟩:=hb.mp rfl;have hI1:=hI.nm_fz e1.fz
   symm
   refine af1 hI1 ?_
   symm
   refine k _ H1 e1 ?_;rw[A2D];exact⟨λh=>⟨ns,rfl,h1,h2,by omega⟩,λ⟨ms,e,_,_,h⟩=>by rw[Lq e];omega⟩
def Y0 (ns:List Str)(D:PyData):Prop:=∃ x y,D=prD (x,y)/\x∈ns/\y∈ns
def inD (ns:List Str):PyData->Bool
 |.str z=>decide (z∈ns)
 |_=>false
theorem Uz (ns:List Str)(d:PyData):(ns.map PyData.str).any (λe=>PyData.eqv e d)=inD ns d:=by
 cases d with
 |str z=>
   rw[List.any_map,A1J,A1D];show _↔decide (z∈ns)=true;rw[A2D];constructor
   . rintro⟨y,hy,h⟩;have h:PyData.eqv (.str y) (.str z)=true:=h;simp only[PyData.eqv] at h;have:y=z:=by simpa using h
     rw[<- this];exact hy
   intro h;refine⟨z,h,?_⟩;show PyData.eqv (.str z) (.str z)=true;simp only[PyData.eqv];simp
 |_=>rw[List.any_map];refine A3S.mpr λy _=>?_;simp only[Function.comp,PyData.eqv];simp
theorem a01 (ns:List Str) (d0 d1:PyData):(inD ns d0=true/\inD ns d1=true)↔Y0 ns (.tuple [d0,d1]):=by
 constructor
 . rintro⟨h0,h1⟩
   cases d0 with
   |str x=>
     cases d1 with
     |str y=>exact⟨x,y,rfl,A21 h0,A21 h1⟩
     |_=>cases h1
   |_=>cases h0
 rintro⟨x,y,e,hx,hy⟩;have e:d0 = .str x/\d1 = .str y:=by simpa[prD] using e
 rw[e.1,e.2];exact⟨A0U hx,A0U hy⟩
def Ej (K:PySem.W.Frag):Sp:=λvs H Q _=>∃ v u D n w W ns n' w' W',vs=[v,u]/\Is K H D v/\Dk n w W D/\n<=60/\Is K H (nmD ns) u/\Dk n' w' W' (nmD ns)/\∀ b H',Same H H'->(b=true↔Y0 ns D)->Q (.bl b) H'
theorem Nl {f:Addr}{fd:FuncData}(F:Fun K "is_saying" "is_saying" Fm f fd)(T:Fj mg):FnOk P w K mg base CX0 1 f fd ["thing","names"] (Ej K):=by
 refine F.ok Mv (λvs H Q E h=>?_) (λcdv A outer s H vs Q E hr h=>?_)
 . obtain⟨v,u,D,n,w,W,ns,n',w',W',rfl,_⟩:=h;rfl
 obtain⟨v,u,D,n,w,W,ns,n',w',W',rfl,hI,hD,hn60,hU,hN,k⟩:=h;have hu:=C4 hr;have hq:=C3 hr
 with_reducible refine⟨_,(A4 (Ab (Cm (A8 (Ap (K:=K)) ⋯ T.b_isinstance PyProof.Rows.Boot.«isinstance» (A0 (pv 0) (A0 (Bq (v:=.ty "tuple") ⋯ T.b_tuple PyProof.Rows.Boot.«tuple» ⋯) A1))) (Cm (Az (B5 (K:=K) hq) (A8 (An (K:=K)) ⋯ T.b_len PyProof.Rows.Boot.«len» (A0 (pv 0) A1)) A3 (Ag _)) (Cm (Az (Ga (K:=K) hq) (Ah (A6 (K:=K) hu) (pv 0) A3 (by ac_rfl)) (pv 1) ⋯) (Cy (Az (Ga (K:=K) hq) (Ah (A6 (K:=K) hu) (pv 0) A3 (by ac_rfl)) (pv 1) ⋯))))))),?_⟩
 symm
 refine Hy hI ?_
 cases hT:a67 D with
 |false=>
   symm
   refine k false H (.refl H) ⟨λh=>(by cases h),λ⟨x,y,e,_⟩=>?_⟩;rw[e] at hT
   cases hT
 |true=>
   obtain⟨ds,rfl⟩:∃ ds,D = .tuple ds:=by cases D<;>first | exact⟨_,rfl⟩ | cases hT
   obtain⟨va,xs,rfl,hS,hX⟩:=hI.tup;have hxl:=IsL.length hX;obtain⟨m,rfl⟩:∃ m,n=m+1:=⟨n-1,by have:=hD.dp;simp only[PyData.depth] at this;omega⟩;have hE:=hD.els
   symm
   refine Vo hS ?_
   symm
   refine Ki (λhc=>?_) (λhc=>?_)
   . have hc:xs.length=2:=by have:=V.int.inj hc;omega
     obtain⟨d0,d1,rfl⟩:∃ d0 d1,ds=[d0,d1]:=by
      match ds,hxl.trans hc with
      | [a,b],_=>exact⟨a,b,rfl⟩
     obtain⟨x0,x1,rfl⟩:∃ d0 d1,xs=[d0,d1]:=by
      match xs,hc with
      | [a,b],_=>exact⟨a,b,rfl⟩
     simp only[L2.IsL] at hX;obtain⟨_,_,e0,i0,_,_,e1,i1,_⟩:=hX
     cases e0
     cases e1;obtain⟨u0,k0⟩:=hE.all d0 ∅;obtain⟨u1,k1⟩:=hE.all d1 ∅;have hNL:PyData.canLayAll0 (ns.map PyData.str)=true:=by have:=hN.lay;simpa only[nmD,PyData.canLay0] using this
     have iff:∀ b:Bool,(b=true↔inD ns d0=true/\inD ns d1=true)->(b=true↔Y0 ns (.tuple [d0,d1])):=λb hb=>hb.trans (a01 ns d0 d1)
     symm
     refine Bu hS (show atI _ 0=some x0 from rfl) ?_
     symm
     refine af9 i0 (.inr hU) hNL k0.lay (A0P k0.dp (by omega)) ?_;rw[Uz]
     cases h0:inD ns d0 with
     |false=>
       symm
       exact k false H (.refl H) (iff false ⟨λh=>(by cases h),λh=>(by rw[h0] at h;exact h.1)⟩)
     |true=>
       symm
       refine Bu hS (show atI _ 1=some x1 from rfl) ?_
       symm
       refine af9 i1 (.inr hU) hNL k1.lay (A0P k1.dp (by omega)) ?_;rw[Uz];exact k _ H (.refl H) (iff _ ⟨λh=>⟨h0,h⟩,λh=>h.2⟩)
   refine k false H (.refl H) ⟨λh=>(by cases h),λ⟨x,y,e,_⟩=>?_⟩;have e:ds=[.str x,.str y]:=by simpa only[prD,PyData.tuple.injEq] using e
   rw[e] at hxl;exact absurd (by rw[<- hxl];rfl) hc
def Qt (K:PySem.W.Frag):Sp:=λvs H Q _=>∃ v u D n w W ns n' w' W',vs=[u,v]/\Is K H D v/\Dk n w W D/\n<=60/\w<=100000/\Is K H (nmD ns) u/\Dk n' w' W' (nmD ns)/\∀ b H',Same H H'->(b=true↔Y0 ns D)->Q (.bl b) H'
def ao8 (ns:List Str):Prop:=(∀ z∈ns,Db z=true)/\ns.Nodup/\ns.length<=10
def FrD (D:PyData):Prop:=∃ ns es,D = .tuple [nmD ns,.tuple es]/\ao8 ns/\es.length<=60
def TaD (D:PyData):Prop:=∃ ns es,D = .tuple [nmD ns,.tuple es]/\ao8 ns/\es.length<=60/\∀ e∈es,Y0 ns e
theorem tn_of {D:PyData}:TnD D↔∃ ns,D=nmD ns/\ao8 ns:=⟨λ⟨ns,e,h1,h2,h3⟩=>⟨ns,e,h1,h2,h3⟩,λ⟨ns,e,h1,h2,h3⟩=>⟨ns,e,h1,h2,h3⟩⟩
theorem Y3 {K:W.Frag}{H:Hp}{ds:List PyData}{xs:List V}(h:IsL K H ds xs)(hl:xs.length=2):∃ d0 d1 x0 x1,ds=[d0,d1]/\xs=[x0,x1]/\Is K H d0 x0/\Is K H d1 x1:=by
 have hd:=(IsL.length h).trans hl
 match ds,xs,hd,hl,h with
 | [d0,d1],[x0,x1],_,_,h=>
   simp only[L2.IsL] at h;obtain⟨_,_,e0,i0,_,_,e1,i1,_⟩:=h
   cases e0
   cases e1;exact⟨d0,d1,x0,x1,rfl,rfl,i0,i1⟩
def Ci (K:PySem.W.Frag):Sp:=λvs H Q _=>∃ v D n w W,vs=[v]/\Is K H D v/\Dk n w W D/\w<=1000000/\W<=1000/\∀ b H',Same H H'->(b=true↔FrD D)->Q (.bl b) H'
theorem Ia {f:Addr}{fd:FuncData}(F:Fun K "is_tale_frame" "is_tale_frame" Cw f fd)(T:Fj mg)(Cg:Fnd P w K mg base 3 "are_tale_names" ["thing"] (Bh K)):FnOk P w K mg base CX0 4 f fd ["thing"] (Ci K):=by
 refine F.ok Ic (λvs H Q E h=>?_) (λcdv A outer s H vs Q E hr h=>?_)
 . obtain⟨v,D,n,w,W,rfl,_⟩:=h;rfl
 obtain⟨v,D,n,w,W,rfl,hI,hD,hw,hW,k⟩:=h;have hu:=C4 hr;have hq:=C3 hr
 with_reducible refine⟨_,(A2 (Ax (PW.pt (Ka (D4 (Bt (A8 (Ap (K:=K)) ⋯ T.b_isinstance PyProof.Rows.Boot.«isinstance» (A0 (pv 0) (A0 (Bq (v:=.ty "tuple") ⋯ T.b_tuple PyProof.Rows.Boot.«tuple» ⋯) A1))))) (Fx (Af (Gd (K:=K) hq) (A8 (An (K:=K)) ⋯ T.b_len PyProof.Rows.Boot.«len» (A0 (pv 0) A1)) A3 (Ag _))))) (A4 (Ab Fi)) Ac)
  (A2 (Ax (D4 (Bt (As Cg (hr.mono nofun) ⋯ (A0 (Ah (A6 (K:=K) hu) (pv 0) A3 (by ac_rfl)) A1)))) (A4 (Ab Fi)) Ac)
  (A4 (Ab (Cm (A8 (Ap (K:=K)) ⋯ T.b_isinstance PyProof.Rows.Boot.«isinstance» (A0 (Ah (A6 (K:=K) hu) (pv 0) A3 (by ac_rfl)) (A0 (Bq (v:=.ty "tuple") ⋯ T.b_tuple PyProof.Rows.Boot.«tuple» ⋯) A1))) (Cy (Az a41 (A8 (An (K:=K)) ⋯ T.b_len PyProof.Rows.Boot.«len» (A0 (Ah (A6 (K:=K) hu) (pv 0) A3 (by ac_rfl)) A1)) (Hl ⋯ T.g_MOST_SAYINGS) (Ag _)))))))),?_⟩
 symm
 refine Hy hI ⟨_,rfl,?_⟩
 cases hT:a67 D with
 |false=>
   symm
   refine k false H (.refl H) ⟨λh=>(by cases h),λ⟨ns,es,e,_⟩=>?_⟩;rw[e] at hT
   cases hT
 |true=>
   obtain⟨ds,rfl⟩:∃ ds,D = .tuple ds:=by cases D<;>first | exact⟨_,rfl⟩ | cases hT
   obtain⟨va,xs,rfl,hS,hX⟩:=hI.tup;have hxl:=IsL.length hX;obtain⟨m,rfl⟩:∃ m,n=m+1:=⟨n-1,by have:=hD.dp;simp only[PyData.depth] at this;omega⟩;have hE:=hD.els
   symm
   refine Vo hS ?_
   symm
   refine a00 (λhc=>?_) (λhc=>?_)
   . symm
     refine k false H (.refl H) ⟨λh=>(by cases h),λ⟨ns,es,e,_⟩=>?_⟩;have e:ds=[nmD ns,.tuple es]:=by simpa only[PyData.tuple.injEq] using e
     rw[e] at hxl;exact absurd (by rw[<- hxl];rfl) hc
   obtain⟨d0,d1,x0,x1,rfl,rfl,i0,i1⟩:=Y3 hX (by have:=V.int.inj hc;omega);obtain⟨u0,k0⟩:=hE.all d0 ∅;obtain⟨u1,k1⟩:=hE.all d1 ∅;have w0:d0.weight<=w:=A0P (Sl ∅) hE.wt
   symm
   refine Bu hS (show atI _ 0=some x0 from rfl) ?_
   symm
   refine⟨x0,d0,m,w,W,rfl,i0,⟨k0.asc,k0.lay,k0.sh,k0.lv,k0.dp,w0,k0.wd⟩,hw,hW,λb H1 e1 hb=>?_⟩
   cases b with
   |false=>
     symm
     refine k false H1 e1 ⟨λh=>(by cases h),λ⟨ns,es,e,h1,_⟩=>?_⟩;have e:d0=nmD ns/\d1 = .tuple es:=by simpa using e
     exact hb.mpr (tn_of.mpr ⟨ns,e.1,h1⟩)
   |true=>
     obtain⟨ns,rfl,hns⟩:=tn_of.mp (hb.mp rfl)
     symm
     refine Bu (e1.seqT hS) (show atI _ 1=some x1 from rfl) ?_
     symm
     have i1':=Is.mono e1 _ _ i1;refine Hy i1' ?_
     cases hT1:a67 d1 with
     |false=>
       symm
       refine k false H1 e1 ⟨λh=>(by cases h),λ⟨ns',es,e,h1,_⟩=>?_⟩;have e:nmD ns=nmD ns'/\d1 = .tuple es:=by simpa using e
       rw[e.2] at hT1
       cases hT1
     |true=>
       obtain⟨es,rfl⟩:∃ ds,d1 = .tuple ds:=by cases d1<;>first | exact⟨_,rfl⟩ | cases hT1
       obtain⟨ea,ys,rfl,hS1,hY⟩:=i1'.tup;have hyl:=IsL.length hY
       symm
       refine Bu (e1.seqT hS) (show atI _ 1=some (.ref ea) from rfl) ?_
       symm
       refine Vo hS1 ?_
       symm
       refine k _ H1 e1 ?_;rw[A2D];constructor
       . exact λh=>⟨ns,es,rfl,hns,by omega⟩
       rintro⟨ns',es',e,_,h⟩;have e:nmD ns=nmD ns'/\es=es':=by simpa using e
       rw[<- e.2] at h;omega
def Be (K:PySem.W.Frag):Sp:=λvs H Q _=>∃ v ns es n w W,vs=[v]/\Is K H (.tuple [nmD ns,.tuple es]) v/\Dk n w W (.tuple [nmD ns,.tuple es])/\n<=60/\es.length<=60 /\
 ∀ r H',Same H H'->((r = .non/\∀ e∈es,Y0 ns e)\/∃ i:Nat,r = .int (i:Int)/\¬ ∀ e∈es,Y0 ns e)->Q r H'
theorem Eh {f:Addr}{fd:FuncData}(F:Fun K "first_wrong_saying" "first_wrong_saying" Bl f fd)(T:Fj mg)(F6:Fnd P w K mg base 1 "is_saying" ["thing","names"] (Ej K)):FnOk P w K mg base CX0 2 f fd ["tale"] (Be K):=by
 refine F.ok Bf (λvs H Q E h=>?_) (λcdv A outer s H vs Q E hr h=>?_)
 . obtain⟨v,ns,es,n,w,W,rfl,_⟩:=h;rfl
 obtain⟨v,ns,es,n,w,W,rfl,hI,hD,hn,hes,k⟩:=h;have hu:=C4 hr;have hq:=C3 hr;obtain⟨va,xs,rfl,hS,hX⟩:=hI.tup;obtain⟨m,rfl⟩:∃ m,n=m+1:=⟨n-1,by have:=hD.dp;simp only[PyData.depth] at this;omega⟩;have hE:=hD.els;obtain⟨d0,d1,x0,x1,e0,rfl,i0,i1⟩:=Y3 hX (IsL.length hX).symm
 cases e0;obtain⟨u0,k0⟩:=hE.all (nmD ns) ∅;obtain⟨u1,k1⟩:=hE.all (.tuple es) ∅;obtain⟨m',rfl⟩:∃ m',m=m'+1:=⟨m-1,by have:=k1.dp;simp only[PyData.depth] at this;omega⟩;have hE1:=k1.els;obtain⟨ea,ys,rfl,hS1,hY⟩:=i1.tup;have hyl:=IsL.length hY
 with_reducible refine⟨_,(A2 (Hv A2C ⋯ (Uh (K:=K) ⋯ T.b_enumerate (A0 (Ah (A6 (K:=K) hu) (pv 0) A3 (by ac_rfl)) A1)) (Gj (K:=K) (n:=2) ⋯ (Bw (Aq (i:=1) Bf.nd ⋯ (by eq_refl)) (Bw (Aq (i:=2) Bf.nd ⋯ (by eq_refl)) Go)))
  (A4 (Ax (D4 (Bt (As F6 (hr.mono nofun) ⋯ (A0 (pv 2) (A0 (Ah (A6 (K:=K) hu) (pv 0) A3 (by ac_rfl)) A1))))) (A4 (Ab (pv 1))) Ac)))
  (A4 (Ab Cs))),?_⟩
 symm
 refine Bu hS (show atI _ 1=some (.ref ea) from rfl) ?_
 symm
 refine Q2 hS1 (λi σ H1=>∃ x1 x2,σ=[some (.ref va),x1,x2]/\Same H H1/\∀ e∈es.take i,Y0 ns e) ⟨_,_,rfl,.refl H,λe he=>by cases he⟩ (λi σ' H' hP=>?_) (λi x σ' H' H2 hx hP e2=>?_) (fun σ' H1 hP=>?_)
 . obtain⟨_,_,_,e1,_⟩:=hP;exact e1.seqT hS1
 . obtain⟨x1,x2,rfl,e1,hall⟩:=hP;have e12:=e1.trans e2;obtain⟨De,hDe,hIx⟩:=IsL.get (IsL.mono e12 _ _ hY) hx;have hmem:=A06 hDe;obtain⟨ue,ke⟩:=hE1.all De hmem
   symm
   refine Bu (e12.seqT hS) (show atI _ 0=some x0 from rfl) ?_
   symm
   refine⟨x,x0,De,m',ue,W,ns,_,_,W,rfl,hIx,ke,by omega,Is.mono e12 _ _ i0,k0,λb H3 e3 hb=>?_⟩
   cases b with
   |true=>
     symm
     refine⟨_,_,rfl,e12.trans e3,λe he=>?_⟩;rw[A10,hDe] at he;rcases A08.mp he with h|h
     . exact hall e h
     have:e=De:=by simpa using h
     rw[this];exact hb.mp rfl
   |false=>
     symm
     exact k _ H3 (e12.trans e3) (.inr ⟨i,rfl,λh=>by have:=hb.mpr (h De hmem);cases this⟩)
 obtain⟨x1,x2,rfl,e1,hall⟩:=hP;rw[<- hyl,A1E] at hall
 symm
 exact k _ H1 e1 (.inl ⟨rfl,hall⟩)
def Gn (K:PySem.W.Frag):Sp:=λvs H Q _=>∃ v D n w W,vs=[v]/\Is K H D v/\Dk n w W D/\n<=60/\w<=1000000/\W<=1000/\∀ b H',Same H H'->(b=true↔TaD D)->Q (.bl b) H'
theorem R5 {f:Addr}{fd:FuncData}(F:Fun K "is_tale" "is_tale" Jq f fd)(T:Fj mg)(Cv:Fnd P w K mg base 4 "is_tale_frame" ["thing"] (Ci K))(Bm:Fnd P w K mg base 2 "first_wrong_saying" ["tale"] (Be K)):FnOk P w K mg base CX0 5 f fd ["thing"] (Gn K):=by
 refine F.ok R1 (λvs H Q E h=>?_) (λcdv A outer s H vs Q E hr h=>?_)
 . obtain⟨v,D,n,w,W,rfl,_⟩:=h;rfl
 obtain⟨v,D,n,w,W,rfl,hI,hD,hn,hw,hW,k⟩:=h;have hu:=C4 hr;have hq:=C3 hr
 with_reducible refine⟨_,(A4 (Ab (Cm (As Cv (hr.mono nofun) ⋯ (A0 (pv 0) A1)) (Cy (Az Qb (As Bm (hr.mono nofun) ⋯ (A0 (pv 0) A1)) Cs (Ag _)))))),?_⟩
 symm
 refine⟨v,D,n,w,W,rfl,hI,hD,hw,hW,λb H1 e1 hb=>?_⟩
 cases b with
 |false=>
   symm
   exact k false H1 e1 ⟨λh=>(by cases h),λ⟨ns,es,e,h1,h2,_⟩=>hb.mpr ⟨ns,es,e,h1,h2⟩⟩
 |true=>
   obtain⟨ns,es,rfl,hns,hes⟩:=hb.mp rfl
   symm
   refine⟨v,ns,es,n,w,W,rfl,Is.mono e1 _ _ hI,hD,hn,hes,λr H2 e2 hr=>?_⟩;rcases hr with ⟨rfl,hall⟩|⟨i,rfl,hno⟩
   . symm
     exact k _ H2 (e1.trans e2) ⟨λ_=>⟨ns,es,rfl,hns,hes,hall⟩,λ_=>rfl⟩
   symm
   refine k _ H2 (e1.trans e2) ⟨λh=>(by cases h),λ⟨ns',es',e,_,_,h⟩=>?_⟩;have e:nmD ns=nmD ns'/\es=es':=by simpa using e
   rw[<- e.2,<- Lq e.1] at h;exact absurd h hno
def Cc (K:W.Frag):Sp:=λvs H Q _=>∃ v ns ps,vs=[v]/\Is K H (hfD ns ps) v/\Vk ns ps/\∀ r as H',H r=none->(∀ a∈as,H a=none)->Same H H'->Tab H' r ns as (Way ps)->Q (.ref r) H'
theorem K7 {f:Addr}{fd:FuncData}(F:Fun K "behind_each" "behind_each" Dp f fd)(T:Fj mg):FnOk P w K mg base CX0 1 f fd ["half"] (Cc K):=by
 refine F.ok Ba (λvs H Q E h=>?_) (λcdv A outer s H vs Q E hr h=>?_)
 . obtain⟨v,ns,ps,rfl,_⟩:=h;rfl
 obtain⟨v,ns,ps,rfl,hI,hW,k⟩:=h;have hu:=C4 hr;have hq:=C3 hr;have hn:=hW.nd;have hfew:=hW.few
 with_reducible refine⟨_,(A2 (Ao (i:=1) Ba.nd ⋯ (by eq_refl) (Ah (A6 (K:=K) hu) (pv 0) A3 (by ac_rfl)))
  (A2 (Ao (i:=2) Ba.nd ⋯ (by eq_refl) (Iw (Re (K:=K) hr.hd) ⋯ T.b_dict PyProof.Rows.Boot.«dict» (A0 (Ca ["name"] [] [] ⋯ ⋯ ⋯ (Bp (K:=K) hu (pv 1)) (λ_ _ _ _=>(Aq (i:=0) (by with_unfolding_all (show(["name"]:List Str).Nodup;decide +kernel)) ⋯ (by eq_refl))) (By nofun) (λ_ _ _ _=>Bn) (λ_ _ _ _=>(Ae (A0 (pv 0) (A0 Vy A1))))) A1)))
  (A2 (Hv A2C ⋯ (Bp (K:=K) hu (Ah (A6 (K:=K) hu) (pv 0) A3 (by ac_rfl))) (Aq (i:=3) Ba.nd ⋯ (by eq_refl))
  (A4 (Jf hu (Ah (A6 (K:=K) hu) (pv 2) (Ah (A6 (K:=K) hu) (pv 3) A3 (by ac_rfl)) (by ac_rfl)) (Ah (A6 (K:=K) hu) (pv 3) A3 (by ac_rfl)) Fi ⋯)))
  (A2 (Hv A2C ⋯ (Bp (K:=K) hu (pv 1)) (Aq (i:=4) Ba.nd ⋯ (by eq_refl))
  (A4 (Hv A2C ⋯ (Bp (K:=K) hu (pv 1)) (Aq (i:=5) Ba.nd ⋯ (by eq_refl))
  (A4 (Ax (Af (Ga (K:=K) hq) (pv 4) (Ah (A6 (K:=K) hu) (pv 2) (pv 5) (by ac_rfl)) ⋯) (A4 (Jj (Kc (K:=K) PySem.F.plainAttrs_dict PySem.F.slot_dict_update PySem.F.type_dict_update (mm Qf) (Ah (A6 (K:=K) hu) (pv 2) (pv 5) (by ac_rfl)) (A0 (Ah (A6 (K:=K) hu) (pv 2) (pv 4) (by ac_rfl)) A1)))) Ac)))))
  (A4 (Ab (pv 2))))))),?_⟩
 symm
 refine ah0 hI λnv hN=>?_
 symm
 obtain⟨na,rfl,hS⟩:=hN.nm;refine Ww hS ?_;refine Gf (Il (xs:=ns.map V.str)) (λp i acc H1=>Same H H1/\∃ as:List Addr,as.length=i/\as.Nodup/\(∀ a∈as,H1 a=some (.dK [])/\H a=none)/\PrsK K H1 (Ep (ns.take i) as) acc) (λp H' hp e h=>⟨e,[],rfl,by simp,λ_ h=>(by cases h),by rfl⟩) (λp i acc H1 hP=>hP.1.seqT hS) (λp i x acc H1 hp hx hi hl ha hP=>?_) λp acc H1 hp ha hl hP=>?_
 . obtain ⟨e1,as,hal,had,haf,hpr⟩:=hP;rw[A0G] at hx
   cases hz:ns[i]? with
   |none=>rw[hz] at hx;cases hx
   |some z=>
     rw[hz] at hx
     cases hx;have hin:i<ns.length:=(A02.mp hz).1
     symm
     refine ae5 λb H2 hb2 e2 h2=>?_
     symm
     refine Ad (A5 ∅) λt H3 ht3 e3 h3=>?_;have h3p:H3 p=some (.lst acc):=e3 _ _ (e2 _ _ ha);refine Pu (by rw[A05];omega) hi hl h3p λH4 e4 h4=>?_;have hbp:b≠p:=Ne.symm (ne_of_none ha hb2);refine⟨by walk_at "sm",as++[b],by simp[hal],?_,λa ha'=>?_,?_⟩
     . rw[A1A];refine⟨had,by simp,λa ha1 c hc e=>?_⟩;have:c=b:=by simpa using hc
       subst this;subst e;have:=(haf _ ha1).1;rw[hb2] at this
       cases this
     . rcases A08.mp ha' with ha'|ha'
       . obtain⟨q1,q2⟩:=haf a ha';exact⟨e4 _ _ (ne_of q1 ha (by intro z;cases z)) (e3 _ _ (e2 _ _ q1)),q2⟩
       have:a=b:=by simpa using ha'
       subst this;exact⟨e4 _ _ hbp (e3 _ _ h2),e1.free hb2⟩
     have ht:ns.take (i+1)=ns.take i++[z]:=by rw[A10,hz];rfl
     have hlen:(ns.take i).length=as.length:=by rw[A17,hal];omega
     rw[ht,Wi hlen];have fz4:=e4.fzL h3p;exact PrsK.snoc (kv:=(Sum.inr z,V.ref b)) (fz4.seq (SqT.of h3)) (PrsK.fz ((e2.fz.trans e3.fz).trans fz4) hpr)
 obtain⟨e1,as,hal,had,haf,hpr⟩:=hP;rw[A05] at hal;rw[A05,A1E] at hpr
 symm
 refine af4 ha hpr (by unfold Ep;rw[List.length_map,List.length_zip];omega) λr H2 hr2 e2 h2=>?_;rw[O2 _ _ (L8 hn) (λ_ _ _ h=>by cases h),A4E] at h2;have hr0:H r=none:=e1.free hr2
 have hra:r∉as:=λhm=>by
  have:=(haf r hm).1;rw[hr2] at this
  cases this
 have hT0:Tab H2 r ns as (λz y=>(z,y)∈ps.take 0):=⟨hal,had,hra,h2,λi z a hz ha'=>⟨[],e2 _ _ (haf a (List.mem_of_getElem? ha')).1,by simp,λ_ h=>(by cases h),λy=>by simp⟩⟩
 symm
 refine ab2 (hI.hf_fz (by walk_at "fz")) λpv hP2=>?_
 refine ac7 hP2 (λi σ H3=>∃ x3,σ=[some v,some (.ref na),some (.ref r),x3,none,none]/\Same H H3/\Fz H2 H3/\Tab H3 r ns as (λz y=>(z,y)∈ps.take i))
  ⟨none,rfl,by walk_at "sm",.refl _,hT0⟩ (λi σ' H' hP=>hP.choose_spec.2.2.1) (λi pr w σ' H3 hpr hIp hP=>?_) (fun σ' H3 hP=>?_)
 . obtain⟨x3,rfl,e3,fz3,hT⟩:=hP;have hpm:=hW.mem pr (A06 hpr);obtain⟨j,a,hj,haj⟩:=hT.at hpm.1;obtain⟨ks,hk1,hk2,hk3,hk4⟩:=hT.row j _ a hj haj;have hkl:ks.length<=ns.length:=B3 hk2 hk3
   symm
   refine ah8 hIp ?_;refine R7 hT hn hj haj ?_
   symm
   refine ab3 hIp ?_;refine Ni hk1 (by rw[He];omega) λH4 e4 h4=>?_;rw[Us] at h4
   symm
   have ha0:H a=none:=(haf a (A06 haj)).2;refine⟨_,rfl,by walk_at "sm",fz3.trans (e4.fzD hk1),hT.put e4 hn hj haj h4 (Kq hk2) (λy hy=>?_) (λy=>?_) (λz hz hzx y=>?_)⟩
   . rcases mem_addK.mp hy with hy|rfl
     . exact hk3 y hy
     exact hpm.2
   . rw[mem_addK,hk4,A10,hpr,A08];constructor
     . rintro(h|rfl)
       . exact .inl h
       exact .inr ∅
     rintro(h|h)
     . exact .inl h
     right
     have:(pr.1,y)=pr:=by simpa using h
     rw[<- this]
   rw[A10,hpr,A08];constructor
   . exact .inl
   rintro(h|h)
   . exact h
   have:(z,y)=pr:=by simpa using h
   exact absurd (by rw[<- this]) hzx
 obtain⟨x3,rfl,e3,fz3,hT⟩:=hP;rw[A1E] at hT;have hW0:War ns ps [] (λz y=>(z,y)∈ps):=⟨λz y h=>.one h,λz y h=>h,λm hm=>by cases hm⟩
 symm
 have hN3:Is K H3 (nmD ns) (.ref na):=hN.nm_fz e3.fz
 refine Xm hN3 (λi σ H4=>∃ x4 x5 R,σ=[some v,some (.ref na),some (.ref r),x3,x4,x5]/\Same H H4/\Fz H3 H4/\Tab H4 r ns as R/\War ns ps (ns.take i) R)
  ⟨_,_,_,rfl,e3,.refl _,hT,hW0⟩ (λi σ' H' hP=>?_) (λi mid σ' H4 hmid hP=>?_) (fun σ' H4 hP=>?_)
 . obtain⟨_,_,_,_,_,fz,_⟩:=hP;exact fz
 . obtain⟨x4,x5,R,rfl,e4,fz4,hT4,hR⟩:=hP;obtain⟨jm,am,hjm,ham⟩:=hT4.at (A06 hmid);have hN4:Is K H4 (nmD ns) (.ref na):=hN3.nm_fz fz4
   symm
   refine Xm hN4 (λj σ H5=>∃ x5,σ=[some v,some (.ref na),some (.ref r),x3,some (.str mid),x5]/\Same H H5/\Fz H4 H5/\Tab H5 r ns as (Yp R mid (ns.take j)))
    ⟨_,rfl,e4,.refl _,hT4.congr λz _ y=>⟨.inl,λh=>h.elim (λq=>q) λq=>absurd q.1 ∅⟩⟩ (λi σ' H' hP=>hP.choose_spec.2.2.1) (λj nm σ' H5 hnm hP=>?_) (fun σ' H5 hP=>?_)
   . obtain⟨x5',rfl,e5,fz5,hT5⟩:=hP;obtain⟨jn,an,hjn,han⟩:=hT5.at (A06 hnm);obtain⟨ks,hk1,hk2,hk3,hk4⟩:=hT5.row jn nm an hjn han;obtain⟨ms,hm1,hm2,hm3,hm4⟩:=hT5.row jm mid am hjm ham;have hkl:ks.length<=ns.length:=B3 hk2 hk3;have hml:ms.length<=ns.length:=B3 hm2 hm3;have htj:ns.take (j+1)=ns.take j++[nm]:=by rw[A10,hnm];rfl
     have hin:mid∈ks↔R nm mid:=(hk4 mid).trans ⟨λh=>h.elim (λq=>q) λq=>q.2.1,.inl⟩;have hmid2:∀ y,y∈ms↔R mid y:=λy=>(hm4 y).trans ⟨λh=>h.elim (λq=>q) λq=>q.2.2,.inl⟩
     have hother:∀ z∈ns,z≠nm->∀ y,Yp R mid (ns.take j) z y↔Yp R mid (ns.take (j+1)) z y:=λz _ hz y=>by unfold Yp;rw[htj,A08,A12];simp[hz]
     symm
     refine R7 hT5 hn hjn han ?_;refine Zw hk1 ?_
     symm
     refine Ki (λhc=>?_) (λhc=>?_)
     . have hRn:=hin.mp hc
       by_cases hne:nm=mid
       . subst hne
         have hji:jn=jm:=by obtain⟨p1,p2⟩:=A02.mp hjn;obtain⟨q1,q2⟩:=A02.mp hjm;exact(A1L hn).mp (p2.trans q2.symm)
         subst hji;rw[han] at ham
         cases ham
         symm
         refine R7 hT5 hn hjn han ?_;refine ae2 hk1 ?_
         symm
         refine R7 hT5 hn hjn han ?_
         symm
         refine ae8 hk1 ?_
         symm
         refine⟨_,rfl,e5,fz5,hT5.congr λz hz y=>?_⟩
         by_cases hzn:z=nm
         . subst hzn;unfold Yp;constructor
           . exact λh=>.inl (h.elim (λq=>q) λq=>q.2.2)
           exact λh=>.inl (h.elim (λq=>q) λq=>q.2.2)
         exact hother z hz hzn y
       have hane:an≠am:=λq=>by subst q;obtain⟨p1,p2⟩:=A02.mp han;obtain⟨q1,q2⟩:=A02.mp ham;have:=(A1L hT5.nd).mp (p2.trans q2.symm);subst this;rw[hjn] at hjm;exact hne (A0X hjm)
       symm
       refine R7 hT5 hn hjn han ?_;refine ae2 hk1 ?_
       symm
       refine R7 hT5 hn hjm ham ?_
       symm
       refine a79 hk1 hm1 hane (by omega) λH6 e6 h6=>?_
       symm
       have ha0:H an=none:=(haf an (A06 han)).2;refine⟨_,rfl,by walk_at "sm",fz5.trans (e6.fzD hk1),hT5.put e6 hn hjn han h6 (Ce hk2) (λy hy=>?_) (λy=>?_) hother⟩
       . rcases mem_addAll.mp hy with hy|hy
         . exact hk3 y hy
         exact hm3 y hy
       rw[mem_addAll,hk4,hmid2];unfold Yp;rw[htj,A08,A12];constructor
       . rintro((h|h)|h)
         . exact .inl h
         . exact .inr ⟨.inl h.1,h.2⟩
         exact .inr ⟨.inr rfl,hRn,h⟩
       rintro(h|h)
       . exact .inl (.inl h)
       exact .inr h.2.2
     have hRn:¬ R nm mid:=λq=>hc (hin.mpr q)
     symm
     refine⟨_,rfl,e5,fz5,hT5.congr λz hz y=>?_⟩
     by_cases hzn:z=nm
     . subst hzn;unfold Yp;constructor
       . exact λh=>.inl (h.elim (λq=>q) λq=>absurd q.2.1 hRn)
       exact λh=>.inl (h.elim (λq=>q) λq=>absurd q.2.1 hRn)
     exact hother z hz hzn y
   obtain⟨x5',rfl,e5,fz5,hT5⟩:=hP;rw[A1E] at hT5;refine⟨_,_,_,rfl,e5,fz4.trans fz5,hT5.congr (R':=λz y=>R z y\/(R z mid/\R mid y)) λz hz y=>?_,?_⟩
   . unfold Yp;simp[hz]
   have htj:ns.take (i+1)=ns.take i++[mid]:=by rw[A10,hmid];rfl
   rw[htj];exact hR.step
 obtain⟨x4,x5,R,rfl,e4,fz4,hT4,hR⟩:=hP;rw[A1E] at hR
 symm
 exact k r as H4 hr0 (λa ha'=>(haf a ha').2) e4 (hT4.congr λz _ y=>hR.done hW.mem z y)
def sp_bare (K:W.Frag):Sp:=λvs H Q _=>∃ v ns ps,vs=[v]/\Is K H (hfD ns ps) v/\HalfW ns ps/\∀ u H',Same H H'->Is K H' (psD (baP ns ps)) u->Q u H'
def Wy (K:W.Frag):Sp:=λvs H Q _=>∃ r x y ns ps as,vs=[.ref r,.str x,.str y]/\TabR H r ns as (Way ps)/\ns.Nodup/\x∈ns/\y∈ns/\Q (.bl (unB ps x y)) H
def Yc (K:W.Frag):Sp:=λvs H Q _=>∃ r ns ps as,vs=[.ref r]/\Tab H r ns as (Way ps)/\ns.Nodup/\ns.length<=100/\∀ u H',Same H H'->Is K H' (psD (unP ns ps)) u->Q u H'
theorem Ew:∀ {ns:List Str} {as:List Addr},as.length=ns.length->(Ep ns as).map (λkv=>kV kv.1)=ns.map V.str
 | [],[],_=>rfl
 | [],_ :: _,h=>by simp at h
 |_ :: _,[],h=>by simp at h
 |n :: ns,a :: as,h=>by have ih:=Ew (ns:=ns) (as:=as) (by simpa using h);unfold Ep at ih ⊢;rw[List.zip_cons_cons,A0I,A0I,ih];rfl
def a88 (K:W.Frag):Sp:=λvs H Q _=>∃ v ns ps,vs=[v]/\Is K H (hfD ns ps) v/\HalfW ns ps/\∀ u H',Same H H'->Is K H' (psD (unP ns ps)) u->Q u H'
def a82 (K:W.Frag):Sp:=λvs H Q _=>∃ v ns ps,vs=[v]/\Is K H (hfD ns ps) v/\HalfW ns ps/\∀ H',Same H H'->Q (.bl (unP ns ps).isEmpty) H'
def ar9:PyData->Bool
 |.int _=>true
 |_=>false
def as3:PyData->Bool
 |.bool _=>true
 |_=>false
theorem a99 {K:W.Frag}{H:Hp}{Q:VK}{D:PyData}{v:V}(h:Is K H D v)(k:Q (.bl (ar9 D||as3 D)) H):Dz K [v,.ty "int"] H Q:=by
 cases D with
 |none=>simp only[Is] at h;subst h;exact E5 .non (b:=false) (by rfl) k
 |bool b=>simp only[Is] at h;subst h;exact E5 (.bl b) (b:=true) (by rfl) k
 |int b=>simp only[Is] at h;subst h;exact E5 (.int b) (b:=true) (by rfl) k
 |str b=>simp only[Is] at h;subst h;exact E5 (.str b) (b:=false) (by rfl) k
 |list ds=>simp only[Is] at h;obtain⟨a,xs,rfl,h1,_⟩:=h;exact Pq h1 (b:=false) (by rfl) k
 |tuple ds=>simp only[Is] at h;obtain⟨a,xs,rfl,h1,_⟩:=h;exact Q0 h1 (b:=false) (by rfl) k
 |dict _=>simp only[Is] at h
theorem Ys {K:W.Frag}{H:Hp}{Q:VK}{D:PyData}{v:V}(h:Is K H D v)(k:Q (.bl (as3 D)) H):Dz K [v,.ty "bool"] H Q:=by
 cases D with
 |none=>simp only[Is] at h;subst h;exact E5 .non (b:=false) (by rfl) k
 |bool b=>simp only[Is] at h;subst h;exact E5 (.bl b) (b:=true) (by rfl) k
 |int b=>simp only[Is] at h;subst h;exact E5 (.int b) (b:=false) (by rfl) k
 |str b=>simp only[Is] at h;subst h;exact E5 (.str b) (b:=false) (by rfl) k
 |list ds=>simp only[Is] at h;obtain⟨a,xs,rfl,h1,_⟩:=h;exact Pq h1 (b:=false) (by rfl) k
 |tuple ds=>simp only[Is] at h;obtain⟨a,xs,rfl,h1,_⟩:=h;exact Q0 h1 (b:=false) (by rfl) k
 |dict _=>simp only[Is] at h
def ap3 (n:Int):PyData->Bool
 |.tuple ds=>decide ((ds.length:Int)=n)
 |_=>false
def a77:PyData->Bool
 |.tuple [_,_,.int n]=>decide (0<=n)
 |_=>false
def Dn (K:W.Frag):Sp:=λvs H Q _=>∃ v D,vs=[v]/\Is K H D v/\Q (.bl (ar9 D)) H
def Df (K:W.Frag):Sp:=λvs H Q _=>∃ v D n,vs=[v,.int n]/\Is K H D v/\Q (.bl (ap3 n D)) H
def D0 (K:W.Frag):Sp:=λvs H Q _=>∃ v D,vs=[v]/\Is K H D v/\Q (.bl (a77 D)) H
theorem Ot {f:Addr}{fd:FuncData}(F:Fun K "is_whole" "is_whole" Gh f fd)(T:Fj mg):FnOk P w K mg base CX0 1 f fd ["thing"] (Dn K):=by
 refine F.ok Oo (λvs H Q E h=>?_) (λcdv A outer s H vs Q E hr h=>?_)
 . obtain⟨v,D,rfl,_⟩:=h;rfl
 obtain⟨v,D,rfl,hI,k⟩:=h;have hu:=C4 hr;have hq:=C3 hr
 with_reducible refine⟨_,(A4 (Ab (Cm (A8 (Ap (K:=K)) ⋯ T.b_isinstance PyProof.Rows.Boot.«isinstance» (A0 (pv 0) (A0 (Bq (v:=.ty "int") ⋯ T.b_int PyProof.Rows.Boot.«int» ⋯) A1))) (Cy (ag8 (A8 (Ap (K:=K)) ⋯ T.b_isinstance PyProof.Rows.Boot.«isinstance» (A0 (pv 0) (A0 (Bq (v:=.ty "bool") ⋯ T.b_bool PyProof.Rows.Boot.«bool» ⋯) A1)))))))),?_⟩
 symm
 refine a99 hI ⟨_,rfl,?_⟩
 cases D with
 |int n=>
   rw[A0Q (by rfl)]
   symm
   refine Ys hI ?_
   symm
   exact k
 |bool n=>
   rw[A0Q (by rfl)]
   symm
   refine Ys hI ?_
   symm
   exact k
 |_=>exact k
theorem K9 {f:Addr}{fd:FuncData}(F:Fun K "is_tuple_of" "is_tuple_of" E1 f fd)(T:Fj mg):FnOk P w K mg base CX0 1 f fd ["thing","size"] (Df K):=by
 refine F.ok Kb (λvs H Q E h=>?_) (λcdv A outer s H vs Q E hr h=>?_)
 . obtain⟨v,D,n,rfl,_⟩:=h;rfl
 obtain⟨v,D,n,rfl,hI,k⟩:=h;have hu:=C4 hr;have hq:=C3 hr
 with_reducible refine⟨_,(A4 (Ab (Cm (A8 (Ap (K:=K)) ⋯ T.b_isinstance PyProof.Rows.Boot.«isinstance» (A0 (pv 0) (A0 (Bq (v:=.ty "tuple") ⋯ T.b_tuple PyProof.Rows.Boot.«tuple» ⋯) A1))) (Cy (Az (B5 (K:=K) hq) (A8 (An (K:=K)) ⋯ T.b_len PyProof.Rows.Boot.«len» (A0 (pv 0) A1)) (pv 1) (Ag _)))))),?_⟩
 symm
 refine Hy hI ⟨_,rfl,?_⟩
 cases D with
 |tuple ds=>
   rw[A0Q (by rfl)]
   symm
   refine Mb hI ?_
   symm
   rw[show decide (V.int (ds.length:Int)=V.int n)=decide ((ds.length:Int)=n) by rw[decide_eq_decide];exact⟨V.int.inj,congrArg V.int⟩];exact k
 |_=>exact k
theorem Ju {f:Addr}{fd:FuncData}(F:Fun K "is_row_frame" "is_row_frame" Dd f fd)(T:Fj mg)(Bi:Fnd P w K mg base 1 "is_whole" ["thing"] (Dn K))(Dv:Fnd P w K mg base 1 "is_tuple_of" ["thing","size"] (Df K)):FnOk P w K mg base CX0 2 f fd ["thing"] (D0 K):=by
 refine F.ok K2 (λvs H Q E h=>?_) (λcdv A outer s H vs Q E hr h=>?_)
 . obtain⟨v,D,rfl,_⟩:=h;rfl
 obtain⟨v,D,rfl,hI,k⟩:=h;have hu:=C4 hr;have hq:=C3 hr
 with_reducible refine⟨_,(A4 (Ab (Cm (As Dv (hr.mono nofun) ⋯ (A0 (pv 0) (A0 A3 A1))) (Cm (As Bi (hr.mono nofun) ⋯ (A0 (Ah (A6 (K:=K) hu) (pv 0) A3 (by ac_rfl)) A1)) (Cy (Az Wv (Ah (A6 (K:=K) hu) (pv 0) A3 (by ac_rfl)) A3 (Ag _))))))),?_⟩
 symm
 refine⟨v,D,3,rfl,hI,?_⟩
 cases h3:ap3 3 D with
 |false=>
   symm
   rw[show false=a77 D by unfold a77;split<;>first | rfl | simp[ap3] at h3]
   exact k
 |true=>
   obtain⟨a,b,c,rfl⟩:∃ a b c,D = .tuple [a,b,c]:=by
    cases D with
    |tuple ds=>
      have h3:ds.length=3:=by have:=A21 h3;omega
      match ds,h3 with
      | [a,b,c],_=>exact⟨a,b,c,rfl⟩
    |_=>cases h3
   obtain⟨ta,xs,rfl,hS,hL⟩:=Is.tup hI;have hlen:=IsL.length hL;obtain⟨y,hy,hIy⟩:=IsL.at hL (show [a,b,c][2]? = some c from rfl)
   symm
   refine Bu hS (show atI xs ((2:Nat):Int)=_ from B0 hy) ?_
   symm
   refine⟨y,c,rfl,hIy,?_⟩
   cases c with
   |int n=>
     simp only[Is] at hIy;subst hIy
     symm
     rw[A0Q (by rfl)]
     symm
     refine Bu hS (show atI xs ((2:Nat):Int)=_ from B0 hy) ?_
     symm
     exact k
   |_=>walk_at "rd";exact k
def Fn (K:PySem.W.Frag):Sp:=λvs H Q _=>∃ v D n w W,vs=[v]/\Is K H D v/\Dk n w W D/\n<=60/\w<=1000000/\W<=1000 /\
 (¬ TaD D->∀ H',Same H H'->Q .non H')/\(TaD D->∃ ns ps,D=hfD ns ps/\HalfW ns ps/\∀ r as H',H r=none->(∀ a∈as,H a=none)->Same H H'->TabR H' r ns as (Way ps)->Q (.ref r) H')
theorem Ov {f:Addr}{fd:FuncData}(F:Fun K "reach_of" "reach_of" Gu f fd)(T:Fj mg)(B7:Fnd P w K mg base 1 "behind_each" ["half"] (Cc K))(Jr:Fnd P w K mg base 5 "is_tale" ["thing"] (Gn K)):FnOk P w K mg base CX0 6 f fd ["thing"] (Fn K):=by
 refine F.ok Jw (λvs H Q E h=>?_) (λcdv A outer s H vs Q E hr h=>?_)
 . obtain⟨v,D,n,w,W,rfl,_⟩:=h;rfl
 obtain⟨v,D,n,w,W,rfl,hI,hD,hn,hw,hW,k1,k2⟩:=h;have hu:=C4 hr;have hq:=C3 hr
 with_reducible refine⟨_,(A2 (Ax (D4 (Bt (As Jr (hr.mono nofun) ⋯ (A0 (pv 0) A1)))) (A4 (Ab Cs)) Ac)
  (A2 (Ao (i:=1) Jw.nd ⋯ (by with_unfolding_all exact Or.inr rfl) (As B7 (hr.mono nofun) ⋯ (A0 (pv 0) A1)))
  (A2 (Ax (Bt (A8 (Jd (K:=K) ⋯) ⋯ T.b_any PyProof.Rows.Boot.«any» (A0 (Ca ["name"] ["reach"] [1] ⋯ ⋯ ⋯ (Bp (K:=K) hu (pv 1)) (λ_ _ _ _=>(Aq (i:=0) (by with_unfolding_all (show(["name","reach"]:List Str).Nodup;decide +kernel)) ⋯ (by eq_refl))) (By nofun) (λ_ _ _ _=>Bn) (λ_ _ _ _=>(Az (Ga (K:=K) hq) (pv 0) (Ah (A6 (K:=K) hu) (pv 1) (pv 0) (by ac_rfl)) ⋯))) A1))) (A4 (Ab Cs)) Ac)
  (A4 (Ab (pv 1)))))),?_⟩
 symm
 refine⟨v,D,n,w,W,rfl,hI,hD,hn,hw,hW,λb H1 e1 hb=>?_⟩
 cases b with
 |false=>
   symm
   exact k1 (λh=>by have:=hb.mpr h;cases this) H1 e1
 |true=>
   obtain⟨ns,ps,rfl,hH,k⟩:=k2 (hb.mp rfl)
   symm
   refine⟨v,ns,ps,rfl,hI.hf_fz e1.fz,hH,λr as H2 hr2 has2 e2 hT=>?_⟩;have hTR:=hT.toR;have hW:=hH
   symm
   refine T7 (as:=[r]) hTR.top (A12.mpr rfl) λo H3 k3 h3=>?_;have hr:H r=none:=e1.free hr2;have s3:Same H H3:=λb o' hb'=>k3.1 b o' (λz=>by rw[A12.mp z,hr] at hb';cases hb') ((e1.trans e2) _ _ hb');refine Ii (K:=K) Mu ns (by rw[Ew hTR.len,A05]) (λ_=>false) (by rw[Ew hTR.len,A05];have:=hW.few;omega) (λH' e=>e _ _ h3) (λi z xv H4 R hz hx e4 hR=>?_) (λq H4 hq' e4 h4=>?_)
   . rw[Ew hTR.len,A0G,hz] at hx
     cases hx;have hT4:=(hTR.keep k3).same e4;obtain⟨j,a,hj,ha⟩:=hT4.at (A06 hz);obtain⟨ks,g1,g2,g3,g4⟩:=hT4.row j z a hj ha
     symm
     refine Yn hT4 hW.nd hj ha ?_
     symm
     refine Xb g1 ?_;rw[A0R λh=>by have:=wayB_iff.mpr ((g4 z).mp h);rw[Ux hW z] at this;cases this];exact hR H4 (.refl _)
   symm
   refine ad6 h4 ?_;rw[show(ns.map λ_=>false).any id=false by rw[A3S];intro b hb;obtain⟨_,_,rfl⟩:=A09.mp hb;decide]
   symm
   exact k r as H4 hr (λa ha=>e1.free (has2 a ha)) (s3.trans e4) ((hTR.keep k3).same e4)
def Ea (K:W.Frag):Sp:=λvs H Q _=>∃ r ns ps as,vs=[.ref r]/\TabR H r ns as (Way ps)/\HalfW ns ps/\∀ b H',Keep [r] H H'->(b=true↔unP ns ps=[])->Q (.bl b) H'
theorem Zs {ns ks:List Str}{ps:List (Str×Str)}{z:Str}(hn:ns.Nodup)(h2:ks.Nodup)(h3:∀ y∈ks,y∈ns)(h4:∀ y,y∈ks↔Way ps z y):ks.length=szW ns ps z:=by refine Ho h2 (hn.sublist A1W) λy=>?_;rw[A13,wayB_iff];exact⟨λh=>⟨h3 y h,(h4 y).mp h⟩,λh=>(h4 y).mpr h.2⟩
theorem Pm {α:Type}(f:α->Nat):∀ l:List α,(l.map λx=>((f x:Nat):Int)).sum=(((l.map f).sum:Nat):Int)
 | []=>rfl
 |a :: l=>by rw[A0I,A2J,Pm f l,A0I,A2J,Int.natCast_add]
theorem a11:∀ {ns:List Str} {as:List Addr},as.length=ns.length->(Ep ns as).map (λkv=>kv.1)=ns.map λx=>(Sum.inr x:Key)
 | [],[],_=>rfl
 | [],_ :: _,h=>by simp at h
 |_ :: _,[],h=>by simp at h
 |n :: ns,a :: as,h=>by have ih:=a11 (ns:=ns) (as:=as) (by simpa using h);unfold Ep at ih ⊢;rw[List.zip_cons_cons,A0I,A0I,ih];rfl
theorem Mr {f:Addr}{fd:FuncData}(F:Fun K "is_row_of" "is_row_of" Ff f fd)(T:Fj mg):FnOk P w K mg base CX0 1 f fd ["reach"] (Ea K):=by
 refine F.ok Mn (λvs H Q E h=>?_) (λcdv A outer s H vs Q E hr h=>?_)
 . obtain⟨r,ns,ps,as,rfl,_⟩:=h;rfl
 obtain⟨r,ns,ps,as,rfl,hT,hW,k⟩:=h;have hu:=C4 hr;have hq:=C3 hr;have hfew:=hW.few;have hn:=hW.nd;have hrl:(Ep ns as).length=ns.length:=by unfold Ep;rw[List.length_map,List.length_zip,hT.len,Nat.min_self]
 with_reducible refine⟨_,(A4 (Ab (Az (B5 (K:=K) hq) (Aw Ct A3 (A8 (Mw (K:=K) ⋯) ⋯ T.b_sum PyProof.Rows.Boot.«sum» (A0 (Ca ["name"] ["reach"] [0] ⋯ ⋯ ⋯ (Bp (K:=K) hu (pv 0)) (λ_ _ _ _=>(Aq (i:=0) (by with_unfolding_all (show(["name","reach"]:List Str).Nodup;decide +kernel)) ⋯ (by eq_refl))) (By nofun) (λ_ _ _ _=>Bn) (λ_ _ _ _=>(A8 J6 ⋯ T.b_len PyProof.Rows.Boot.«len» (A0 (Ah (A6 (K:=K) hu) (pv 1) (pv 0) (by ac_rfl)) A1)))) A1))) (Aw Ct (A8 J6 ⋯ T.b_len PyProof.Rows.Boot.«len» (A0 (pv 0) A1)) (Aw P6 (A8 J6 ⋯ T.b_len PyProof.Rows.Boot.«len» (A0 (pv 0) A1)) A3)) (Ag _)))),?_⟩
 symm
 refine T7 (as:=[r]) hT.top (A12.mpr rfl) λo H1 k1 h1=>?_;refine Gf Mu (λq i acc H2=>Same H1 H2/\acc=(ns.take i).map λx=>V.int ((szW ns ps x:Nat):Int)) (λq H' hq' e h=>⟨e,rfl⟩) (λq i acc H2 hP=>hP.1 _ _ h1) (λq i x acc H2 hq' hx hi hl hacc hP=>?_) (λq acc H2 hq' hacc hl hP=>?_)
 . obtain⟨e2,rfl⟩:=hP;rw[Ew hT.len,A0G] at hx;obtain⟨z,hz,rfl⟩:=A48.mp hx;have hT2:=(hT.keep k1).same e2;obtain⟨j,a,hj,ha⟩:=hT2.at (A06 hz);obtain⟨ks,g1,g2,g3,g4⟩:=hT2.row j z a hj ha
   symm
   refine Yn hT2 hn hj ha ?_
   symm
   refine Um g1 ?_;rw[He,Zs hn g2 g3 g4];refine Pu (by rw[A05];omega) hi hl hacc λH3 e3 h3=>⟨?_,?_⟩
   . walk_at "sm"
   rw[A10,hz];simp
 obtain⟨e2,rfl⟩:=hP;rw[Ew hT.len,A05,A1E] at hacc;have hT2:=(hT.keep k1).same e2
 symm
 refine am2 (ns:=ns.map λx=>((szW ns ps x:Nat):Int)) (.inl (SqL.of (by rw[hacc,A2F];rfl))) (λn hn'=>?_) (by rw[A05];omega) ?_
 . obtain⟨x,hx,rfl⟩:=A09.mp hn';have:szW ns ps x<=ns.length:=A2V _ _;omega
 symm
 refine Um hT2.top ?_
 symm
 refine Um hT2.top ?_;rw[hrl]
 symm
 refine k _ H2 (k1.trans (e2.keep _)) ?_;rw[A2D]
 have h1:=Zv (ps:=ps) (λx=>Ux hW x) (λx y h=>by
  cases e:Av ps y x with
  |false=>rfl
  |true=>exact absurd ((wayB_iff.mp h).trans (wayB_iff.mp e)) (hW.irr x)) ns
 have hsum:(2*(ns.map λx=>((szW ns ps x:Nat):Int)).sum:Int)+2*(((unP ns ps).length:Nat):Int)=(ns.length:Int)*((ns.length:Int)-1):=by
  rw[Pm];unfold szW
  cases hl0:ns.length with
  |zero=>rw[hl0] at h1;simp only[Nat.zero_mul] at h1;simp;omega
  |succ n=>
    rw[hl0,Nat.add_sub_cancel] at h1;have h2:((2*(ns.map λx=>(ns.filter λy=>Av ps x y).length).sum+2*(unP ns ps).length:Nat):Int)=(((n+1)*n:Nat):Int):=by rw[h1]
    push_cast at h2 ⊢
    rw[h2,Int.add_sub_cancel]
 rw[<- A0Y];constructor
 . intro z;have:=V.int.inj z;omega
 intro z;rw[z] at hsum;exact congrArg V.int (by omega)
def La (K:W.Frag):Sp:=λvs H Q _=>∃ v u ns ps ns' ps',vs=[v,u]/\Is K H (hfD ns ps) v/\HalfW ns ps/\Is K H (hfD ns' ps') u/\HalfW ns' ps'/\∀ b H',(b=true↔((∀ z,z∈ns↔z∈ns')/\∀ z∈ns,∀ y,Way ps z y↔Way ps' z y))->Same H H'->Q (.bl b) H'
theorem Vg {f:Addr}{fd:FuncData}(F:Fun K "alike" "alike" Ox f fd)(T:Fj mg)(B7:Fnd P w K mg base 1 "behind_each" ["half"] (Cc K)):FnOk P w K mg base CX0 2 f fd ["one","other"] (La K):=by
 refine F.ok X2 (λvs H Q E h=>?_) (λcdv A outer s H vs Q E hr h=>?_)
 . obtain⟨v,u,ns,ps,ns',ps',rfl,_⟩:=h;rfl
 obtain⟨v,u,ns,ps,ns',ps',rfl,hI,hW,hI',hW',k⟩:=h;have hu:=C4 hr;have hq:=C3 hr
 with_reducible refine⟨_,(A4 (Ab (Az (Xa hq) (As B7 (hr.mono nofun) ⋯ (A0 (pv 0) A1)) (As B7 (hr.mono nofun) ⋯ (A0 (pv 1) A1)) (Ag _)))),?_⟩
 symm
 refine⟨v,ns,ps,rfl,hI,hW,λr as H1 hr1 ha1 e1 hT=>?_⟩
 symm
 refine⟨u,ns',ps',rfl,hI'.hf_fz e1.fz,hW',λr' as' H2 hr2 ha2 e2 hT'=>?_⟩
 symm
 exact⟨r,r',ns,ns',as,as',_,_,rfl,rfl,hT.same e2,hT',hW.nd,hW'.nd,λb hb=>k b H2 hb (e1.trans e2)⟩
inductive Ru:PyData->Bool->List Int->Prop
 |row:Ru (.tuple [.str "row"]) true []
 |turned (n:Int):Ru (.tuple [.str "turned",.int n]) true [n]
 |above (a b:Int):Ru (.tuple [.str "above",.int a,.int b]) true [a,b]
 |last:Ru (.tuple [.str "last",.tuple [.str "0"]]) false []
def Eg (K:W.Frag):Sp:=λvs H Q _=>∃ v r D,Is K H D v/\((∃ n,vs=[.str "number",v,r]/\D = .int n/\Q (.bl true) H)\/(vs=[.str "numbers",v,r]/\D = .tuple [.str "0"]/\∀ H',Same H H'->Q (.bl false) H'))
def Gi (K:W.Frag):Sp:=λvs H Q _=>∃ v r D b is,vs=[v,r]/\Is K H D v/\Ru D b is/\∀ H',Same H H'->Q (.bl b) H'
theorem Nm {f:Addr}{fd:FuncData}(F:Fun K "fits_kind" "fits_kind" Fp f fd)(T:Fj mg)(Bi:Fnd P w K mg base 1 "is_whole" ["thing"] (Dn K))(Au:Fnd P w K mg base 2 "are_unlike_names" ["thing"] (B8 K)):FnOk P w K mg base CX0 3 f fd ["kind","thing","reach"] (Eg K):=by
 refine F.ok Nn (λvs H Q E h=>?_) (λcdv A outer s H vs Q E hr h=>?_)
 . obtain⟨v,r,D,_,⟨_,rfl,_⟩ | ⟨rfl,_⟩⟩:=h<;>rfl
 obtain⟨v,r,D,hI,h⟩:=h;have hu:=C4 hr;have hq:=C3 hr;rcases h with ⟨n,rfl,rfl,k⟩|⟨rfl,rfl,k⟩
 . with_reducible refine⟨_,(A2 (Ax (Af (B5 (K:=K) hq) (pv 0) A7 (Ag _)) (A4 (Ab (As Bi (hr.mono nofun) ⋯ (A0 (pv 1) A1)))) Ac)
   (A2 (Ax (Af (B5 (K:=K) hq) (pv 0) A7 (Ag _)) (A4 (Ab (Cm (A8 (Ap (K:=K)) ⋯ T.b_isinstance PyProof.Rows.Boot.«isinstance» (A0 (pv 1) (A0 (Bq (v:=.ty "tuple") ⋯ T.b_tuple PyProof.Rows.Boot.«tuple» ⋯) A1))) (Cy (A8 (En (K:=K) ⋯) ⋯ T.b_all PyProof.Rows.Boot.«all» (A0 (Ca ["ref"] [] [] ⋯ ⋯ ⋯ (Bp (K:=K) hu (pv 1)) (λ_ _ _ _=>(Aq (i:=0) (by with_unfolding_all (show(["ref"]:List Str).Nodup;decide +kernel)) ⋯ (by eq_refl))) (By nofun) (λ_ _ _ _=>Bn) (λ_ _ _ _=>(As Bi (hr.mono nofun) ⋯ (A0 (pv 0) A1)))) A1)))))) Ac)
   (A2 (Ax (Af (B5 (K:=K) hq) (pv 0) A7 (Ag _)) (A4 (Ab (As Au (hr.mono nofun) ⋯ (A0 (pv 1) A1)))) Ac)
   (A4 (Ab (Cm (A8 (Ap (K:=K)) ⋯ T.b_isinstance PyProof.Rows.Boot.«isinstance» (A0 (pv 1) (A0 (Bq (v:=.ty "str") ⋯ T.b_str PyProof.Rows.Boot.«str» ⋯) A1))) (Cy (Az (Ga (K:=K) hq) (pv 1) (pv 2) ⋯)))))))),?_⟩
   symm
   exact⟨v,_,rfl,hI,k⟩
 with_reducible refine⟨_,(A2 (Ax (Af (B5 (K:=K) hq) (pv 0) A7 (Ag _)) (A4 (Ab (As Bi (hr.mono nofun) ⋯ (A0 (pv 1) A1)))) Ac)
 (A2 (Ax (Af (B5 (K:=K) hq) (pv 0) A7 (Ag _)) (A4 (Ab (Cm (A8 (Ap (K:=K)) ⋯ T.b_isinstance PyProof.Rows.Boot.«isinstance» (A0 (pv 1) (A0 (Bq (v:=.ty "tuple") ⋯ T.b_tuple PyProof.Rows.Boot.«tuple» ⋯) A1))) (Cy (A8 (En (K:=K) ⋯) ⋯ T.b_all PyProof.Rows.Boot.«all» (A0 (Ca ["ref"] [] [] ⋯ ⋯ ⋯ (Bp (K:=K) hu (pv 1)) (λ_ _ _ _=>(Aq (i:=0) (by with_unfolding_all (show(["ref"]:List Str).Nodup;decide +kernel)) ⋯ (by eq_refl))) (By nofun) (λ_ _ _ _=>Bn) (λ_ _ _ _=>(As Bi (hr.mono nofun) ⋯ (A0 (pv 0) A1)))) A1)))))) Ac)
 (A2 (Ax (Af (B5 (K:=K) hq) (pv 0) A7 (Ag _)) (A4 (Ab (As Au (hr.mono nofun) ⋯ (A0 (pv 1) A1)))) Ac)
 (A4 (Ab (Cm (A8 (Ap (K:=K)) ⋯ T.b_isinstance PyProof.Rows.Boot.«isinstance» (A0 (pv 1) (A0 (Bq (v:=.ty "str") ⋯ T.b_str PyProof.Rows.Boot.«str» ⋯) A1))) (Cy (Az (Ga (K:=K) hq) (pv 1) (pv 2) ⋯)))))))),?_⟩
 obtain⟨ta,xs,rfl,hS,hL⟩:=Is.tup hI
 symm
 refine Ki (λh=>?_) (λ_=>?_)
 . injection h with h;exact absurd h nofun
 symm
 refine Hy hI ?_
 symm
 rw[A0Q (by rfl)]
 symm
 refine Ww hS ?_;refine Ii (K:=K) (Il (xs:=xs)) [PyData.str "0"] (IsL.length hL) (λ_=>false) (by rw[<- IsL.length hL];decide) (λH' e=>e.seqT hS) (λm d xv H1 R hd hxv e1 hR=>?_) (λq H1 hq1 e1 h1=>?_)
 . obtain⟨y,hy,hIy⟩:=IsL.at (IsL.mono e1 _ _ hL) hd;rw[hxv] at hy
   cases hy;have:d = .str "0":=A12.mp (A06 hd);subst this
   symm
   exact⟨xv,_,rfl,hIy,hR H1 (.refl _)⟩
 symm
 refine Vm h1 ?_;exact k H1 e1
theorem Ru.cut {D:PyData}{b:Bool}{is:List Int}(h:Ru D b is):∃ w ds,D = .tuple (.str w :: ds)/\((w = "row" /\ ds=[]/\b=true/\is=[])\/(w = "turned" /\ (∃ n,ds=[.int n]/\is=[n])/\b=true)\/(w = "above" /\ (∃ n m,ds=[.int n,.int m]/\is=[n,m])/\b=true)\/(w = "last" /\ ds=[.tuple [.str "0"]]/\b=false/\is=[])):=by
 cases h with
 |row=>exact⟨_,_,rfl,.inl ⟨rfl,rfl,rfl,rfl⟩⟩
 |turned n=>exact⟨_,_,rfl,.inr (.inl ⟨rfl,⟨n,rfl,rfl⟩,rfl⟩)⟩
 |above a b=>exact⟨_,_,rfl,.inr (.inr (.inl ⟨rfl,⟨a,b,rfl,rfl⟩,rfl⟩))⟩
 |last=>exact⟨_,_,rfl,.inr (.inr (.inr ⟨rfl,rfl,rfl,rfl⟩))⟩
theorem Qw {f:Addr}{fd:FuncData}(F:Fun K "is_rule" "is_rule" Js f fd)(T:Fj mg){D_RULES RULES_t0 RULES_t1 RULES_t2 RULES_t3 RULES_t4 RULES_t5 RULES_t6 RULES_t7:Addr}(r_RULES:Jo P w K mg D_RULES RULES_t0 RULES_t1 RULES_t2 RULES_t3 RULES_t4 RULES_t5 RULES_t6 RULES_t7)(Fg:Fnd P w K mg base 3 "fits_kind" ["kind","thing","reach"] (Eg K)):FnOk P w K mg base CX0 4 f fd ["thing","reach"] (Gi K):=by
 refine F.ok Ke (λvs H Q E h=>?_) (λcdv A outer s H vs Q E hr h=>?_)
 . obtain⟨v,r,D,b,is,rfl,_⟩:=h;rfl
 obtain⟨v,r,D,b,is,rfl,hI,hR,k⟩:=h;have hu:=C4 hr;have hq:=C3 hr
 with_reducible refine⟨_,(A2 (Ax (PW.pt (Ka (D4 (Bt (A8 (Ap (K:=K)) ⋯ T.b_isinstance PyProof.Rows.Boot.«isinstance» (A0 (pv 0) (A0 (Bq (v:=.ty "tuple") ⋯ T.b_tuple PyProof.Rows.Boot.«tuple» ⋯) A1))))) (Fx (Af (B5 (K:=K) hq) (A8 (An (K:=K)) ⋯ T.b_len PyProof.Rows.Boot.«len» (A0 (pv 0) A1)) A3 (Ag _))))) (A4 (Ab Fi)) Ac)
  (A2 (Ax (PW.pt (Ka (D4 (Bt (A8 (Ap (K:=K)) ⋯ T.b_isinstance PyProof.Rows.Boot.«isinstance» (A0 (Ah (A6 (K:=K) hu) (pv 0) A3 (by ac_rfl)) (A0 (Bq (v:=.ty "str") ⋯ T.b_str PyProof.Rows.Boot.«str» ⋯) A1))))) (Fx (Af (Od r_RULES.kd) (Ah (A6 (K:=K) hu) (pv 0) A3 (by ac_rfl)) (Hl (v:=.ref D_RULES) ⋯ ⟨_,r_RULES.gl,⋯⟩) ⋯)))) (A4 (Ab Fi)) Ac)
  (A2 (Ao (i:=2) Ke.nd ⋯ (by eq_refl) (Ah (Xp r_RULES.kd) (Hl (v:=.ref D_RULES) ⋯ ⟨_,r_RULES.gl,⋯⟩) (Ah (A6 (K:=K) hu) (pv 0) A3 (by ac_rfl)) (by ac_rfl)))
  (A2 (Ax (Af (Gd (K:=K) hq) (A8 (An (K:=K)) ⋯ T.b_len PyProof.Rows.Boot.«len» (A0 (pv 0) A1)) (Aw (B2 (K:=K)) A3 (A8 (An (K:=K)) ⋯ T.b_len PyProof.Rows.Boot.«len» (A0 (pv 2) A1))) (Ag _)) (A4 (Ab Fi)) Ac)
  (A4 (Ab (A8 (En (K:=K) ⋯) ⋯ T.b_all PyProof.Rows.Boot.«all» (A0 (Ca ["kind","part"] ["reach"] [1] ⋯ ⋯ ⋯ (Yq (K:=K) ⋯ T.b_zip (A0 (pv 2) (A0 (Cd (V8 (K:=K)) (pv 0) (C8 A3) Fh) A1))) (λ_ _ _ _=>(Gj (K:=K) (n:=2) ⋯ (Bw (Aq (i:=0) (by with_unfolding_all (show(["kind","part","reach"]:List Str).Nodup;decide +kernel)) ⋯ (by eq_refl)) (Bw (Aq (i:=1) (by with_unfolding_all (show(["kind","part","reach"]:List Str).Nodup;decide +kernel)) ⋯ (by eq_refl)) Go)))) (ah9 (U3 nofun (U3 nofun af8))) (λ_ _ _ _=>Bn) (λ_ _ _ _=>(As Fg (hr.mono nofun) ⋯ (A0 (pv 0) (A0 (pv 1) (A0 (pv 2) A1)))))) A1)))))))),?_⟩
 obtain⟨w,ds,rfl,hw⟩:=hR.cut;obtain⟨ta,xs,rfl,hS,hL⟩:=Is.tup hI;have hlen:=IsL.length hL;obtain⟨y0,hy0,hI0⟩:=IsL.at hL (show(PyData.str w :: ds)[0]? = some (.str w) from rfl);simp only[Is] at hI0;subst hI0
 symm
 refine Hy hI ?_
 symm
 rw[A0L (by intro z;cases z)]
 symm
 refine .inl ⟨.ref ta,_,rfl,.inr ⟨_,hS,rfl⟩,?_⟩
 symm
 refine Ki (λh=>?_) (λ_=>?_)
 . injection h with h;rw[<- hlen,A0F] at h;omega
 symm
 refine Bu hS (show atI xs ((0:Nat):Int)=_ from B0 hy0) ?_
 symm
 refine E5 (.str w) (b:=true) (by rfl) ?_
 symm
 refine Bu hS (show atI xs ((0:Nat):Int)=_ from B0 hy0) ?_
 have hb0:(b=false->0<ds.length)/\ds.length<=2:=by rcases hw with ⟨_,rfl,rfl,_⟩|⟨_,⟨n,rfl,_⟩,rfl⟩|⟨_,⟨n,m,rfl,_⟩,rfl⟩|⟨_,rfl,rfl,_⟩<;>exact⟨λ_=>by simp_all,by simp⟩
 obtain⟨t,ks,hk,hq',hkl,hke⟩:∃(t:Addr) (ks:List Str),Cf [((Sum.inr "row":Key),V.ref RULES_t0),(Sum.inr "ask",V.ref RULES_t1),(Sum.inr "last",V.ref RULES_t2),(Sum.inr "first",V.ref RULES_t3),(Sum.inr "above",V.ref RULES_t4),(Sum.inr "beside",V.ref RULES_t5),(Sum.inr "turned",V.ref RULES_t6),(Sum.inr "called",V.ref RULES_t7)] (Sum.inr w:Key)=some (.ref t)/\(∀ H,SqT K H t (ks.map V.str))/\ks.length=ds.length/\∀(i:Nat) k d,ks[i]? = some k->ds[i]? = some d->(b=true/\k = "number" /\ ∃ n,d = .int n)\/(b=false/\k = "numbers" /\ d = .tuple [.str "0"]):=by
  rcases hw with ⟨rfl,rfl,rfl,rfl⟩|⟨rfl,⟨n,rfl,rfl⟩,rfl⟩|⟨rfl,⟨n,m,rfl,rfl⟩,rfl⟩|⟨rfl,rfl,rfl,rfl⟩
  . exact⟨RULES_t0,[],by rfl,r_RULES.q_row,rfl,λi k d h=>by cases h⟩
  . refine⟨RULES_t6,["number"],by rfl,r_RULES.q_turned,rfl,λi k d h1 h2=>.inl ⟨rfl,?_⟩⟩
    cases i with
    |zero=>cases h1;cases h2;exact⟨rfl,n,rfl⟩
    |succ i=>cases h1
  . refine⟨RULES_t4,["number","number"],by rfl,r_RULES.q_above,rfl,λi k d h1 h2=>.inl ⟨rfl,?_⟩⟩
    match i,h1,h2 with
    |0,h1,h2=>cases h1;cases h2;exact⟨rfl,n,rfl⟩
    |1,h1,h2=>cases h1;cases h2;exact⟨rfl,m,rfl⟩
    |i+2,h1,h2=>cases h1
  refine⟨RULES_t2,["numbers"],by rfl,r_RULES.q_last,rfl,λi k d h1 h2=>.inr ⟨rfl,?_⟩⟩
  cases i with
  |zero=>cases h1;cases h2;exact⟨rfl,rfl⟩
  |succ i=>cases h1
 symm
 refine Z5 ?_;rw[hk]
 symm
 rw[A0L (by intro z;cases z)]
 symm
 refine Bu hS (show atI xs ((0:Nat):Int)=_ from B0 hy0) ?_
 symm
 refine Xh hk ?_;have hl1:xs.length=1+ks.length:=by rw[<- hlen,hkl,A0F];omega
 symm
 refine .inl ⟨.ref ta,_,rfl,.inr ⟨_,hS,rfl⟩,?_⟩
 symm
 refine .inl ⟨.ref t,_,rfl,.inr ⟨_,hq' H,rfl⟩,?_⟩
 symm
 refine a00 (λh=>absurd (by rw[hl1,A05];congr 1) h) (λ_=>?_)
 symm
 refine Yl ?_
 symm
 refine Qr hS λq2 H2 e2 h2=>?_;rw[J9 (by omega)] at h2
 symm
 refine Ws (f:=λ_=>b) (hq' H2) h2 (by rw[A05];omega) (λi x y H3 R hx hy e3 hR=>?_) (λp H3 hp3 e3 h3=>?_)
 . rw[A0G] at hx;obtain⟨k',hk',rfl⟩:=A48.mp hx;rw[List.getElem?_drop] at hy;have hi:=(A02.mp hk').1;have hd:=A03 (show i<ds.length by omega);obtain⟨y',hy',hIy⟩:=IsL.at (IsL.mono (e2.trans e3) _ _ hL) (show(PyData.str w :: ds)[1+i]? = some ds[i] by rw[Nat.add_comm,A38];exact hd);rw[show((1:Int)).toNat+i=1+i from rfl,hy'] at hy
   cases hy
   symm
   refine⟨y,r,_,hIy,?_⟩;rcases hke i k' _ hk' hd with ⟨rfl,rfl,n,hn⟩|⟨rfl,rfl,hn⟩
   . exact .inl ⟨n,rfl,hn,hR H3 (.refl _)⟩
   exact .inr ⟨rfl,hn,λH4 e4=>hR H4 e4⟩
 symm
 refine Vm (SqL.of h3) ?_
 have hall:((List.range (min (ks.map V.str).length (xs.drop ((1:Int)).toNat).length)).map λ_=>b).all id=b:=by
  have hm:min (ks.map V.str).length (xs.drop ((1:Int)).toNat).length=ds.length:=by rw[A05,A24,show((1:Int)).toNat=1 from rfl];omega
  rw[hm]
  cases b with
  |true=>simp
  |false=>obtain⟨n,hn⟩:∃ n,ds.length=n+1:=⟨ds.length-1,by have:=hb0.1 rfl;omega⟩;rw[hn,A4A];rfl
 rw[hall];exact k H3 (e2.trans e3)
def Hi (K:W.Frag):Sp:=λvs H Q _=>∃ v D is,vs=[v]/\Is K H D v/\Ru D true is/\∀ p H',H p=none->Same H H'->H' p=some (.lst (is.map V.int))->Q (.ref p) H'
theorem R9 {f:Addr}{fd:FuncData}(F:Fun K "refs_of" "refs_of" Jh f fd)(T:Fj mg){D_RULES RULES_t0 RULES_t1 RULES_t2 RULES_t3 RULES_t4 RULES_t5 RULES_t6 RULES_t7:Addr}(r_RULES:Jo P w K mg D_RULES RULES_t0 RULES_t1 RULES_t2 RULES_t3 RULES_t4 RULES_t5 RULES_t6 RULES_t7):FnOk P w K mg base CX0 1 f fd ["rule"] (Hi K):=by
 refine F.ok Ez (λvs H Q E h=>?_) (λcdv A outer s H vs Q E hr h=>?_)
 . obtain⟨v,D,is,rfl,_⟩:=h;rfl
 obtain⟨v,D,is,rfl,hI,hR,k⟩:=h;have hu:=C4 hr;have hq:=C3 hr
 with_reducible refine⟨_,(A2 (Ao (i:=1) Ez.nd ⋯ (by eq_refl) (Co A1))
  (A2 (Hv A2C ⋯ (Yq (K:=K) ⋯ T.b_zip (A0 (Ah (Xp r_RULES.kd) (Hl (v:=.ref D_RULES) ⋯ ⟨_,r_RULES.gl,⋯⟩) (Ah (A6 (K:=K) hu) (pv 0) A3 (by ac_rfl)) (by ac_rfl)) (A0 (Cd (V8 (K:=K)) (pv 0) (C8 A3) Fh) A1))) (Gj (K:=K) (n:=2) ⋯ (Bw (Aq (i:=2) Ez.nd ⋯ (by eq_refl)) (Bw (Aq (i:=3) Ez.nd ⋯ (by eq_refl)) Go)))
  (A2 (Ax (Af (B5 (K:=K) hq) (pv 2) A7 (Ag _)) (A4 (Jj (Kc (K:=K) A2K A40 A41 (mm G8) (pv 1) (A0 (pv 3) A1)))) Ac)
  (A4 (Ax (Af (B5 (K:=K) hq) (pv 2) A7 (Ag _)) (A4 (Jj (Kc (K:=K) A2K PySem.F.slot_list_extend PySem.F.type_list_extend (mm Si) (pv 1) (A0 (pv 3) A1)))) Ac))))
  (A4 (Ab (pv 1))))),?_⟩
 obtain⟨w,ds,rfl,hw⟩:=hR.cut;obtain⟨ta,xs,rfl,hS,hL⟩:=Is.tup hI;have hlen:=IsL.length hL;obtain⟨y0,hy0,hI0⟩:=IsL.at hL (show(PyData.str w :: ds)[0]? = some (.str w) from rfl);simp only[Is] at hI0;subst hI0
 obtain⟨t,hk,hq',hke⟩:∃(t:Addr),Cf [((Sum.inr "row":Key),V.ref RULES_t0),(Sum.inr "ask",V.ref RULES_t1),(Sum.inr "last",V.ref RULES_t2),(Sum.inr "first",V.ref RULES_t3),(Sum.inr "above",V.ref RULES_t4),(Sum.inr "beside",V.ref RULES_t5),(Sum.inr "turned",V.ref RULES_t6),(Sum.inr "called",V.ref RULES_t7)] (Sum.inr w:Key)=some (.ref t)/\(∀ H,SqT K H t (List.replicate is.length (V.str "number")))/\ds=is.map PyData.int/\is.length<=2:=by
  rcases hw with ⟨rfl,rfl,_,rfl⟩|⟨rfl,⟨n,rfl,rfl⟩,_⟩|⟨rfl,⟨n,m,rfl,rfl⟩,_⟩|⟨_,_,h,_⟩
  . exact⟨RULES_t0,by rfl,r_RULES.q_row,rfl,by simp⟩
  . exact⟨RULES_t6,by rfl,r_RULES.q_turned,rfl,by simp⟩
  . exact⟨RULES_t4,by rfl,r_RULES.q_above,rfl,by simp⟩
  cases h
 obtain⟨rfl,h2⟩:=hke;rw[A0F,A05] at hlen
 symm
 refine Ck (A5 ∅) λp H1 hp e1 h1=>?_
 symm
 refine Yl ?_
 symm
 refine Bu (e1.seqT hS) (show atI xs ((0:Nat):Int)=_ from B0 hy0) ?_
 symm
 refine Xh hk ?_
 symm
 refine Qr (e1.seqT hS) λq2 H2 e2 hs2=>?_;rw[J9 (by omega)] at hs2
 symm
 have hmn:min (List.replicate is.length (V.str "number")).length (xs.drop ((1:Int)).toNat).length=is.length:=by rw[A1B,A24,show((1:Int)).toNat=1 from rfl];omega
 refine a14 (hq' H2) hs2 (λi σ H3=>∃ x2 x3,σ=[some (.ref ta),some (.ref p),x2,x3]/\Same H H3/\SqT K H3 q2 (xs.drop ((1:Int)).toNat)/\H3 p=some (.lst ((is.take i).map V.int))) ⟨_,_,rfl,e1.trans e2,hs2,e2 _ _ h1⟩ (λi σ H3 hP=>?_) (λi x y σ H3 H4 hx hy hP e4=>?_) (fun σ H3 hP=>?_)
 . obtain⟨_,_,_,_,h,_⟩:=hP;exact⟨hq' _,h⟩
 . obtain⟨x2,x3,rfl,e3,hs3,h3⟩:=hP;have hx':x=V.str "number":=A42 (A06 hx);subst hx';have hil:i<is.length:=by have:=(A02.mp hx).1;rwa[A1B] at this
   have hn:=A03 hil;generalize is[i]=n at hn;obtain⟨y',hy',hIy⟩:=IsL.at hL (show(PyData.str w :: is.map PyData.int)[1+i]? = some (.int n) by rw[Nat.add_comm,A38,A0G,hn];rfl);rw[List.getElem?_drop,show((1:Int)).toNat+i=1+i from rfl,hy'] at hy
   cases hy;simp only[Is] at hIy;subst hIy;have h4:=e4 _ _ h3
   symm
   refine Tg h4 (by rw[A05,A17];omega) λH5 e5 h5=>?_
   symm
   refine Ki (λh=>?_) (λ_=>?_)
   . injection h with h;exact absurd h nofun
   symm
   refine⟨_,_,rfl,(e3.trans e4).off hp e5,?_,?_⟩
   . rcases e4.seqT hs3 with g|g
     . exact .inl (e5.fzL h4 _ _ g)
     exact .inr g
   rw[h5,A10,hn,A19];rfl
 obtain⟨x2,x3,rfl,e3,hs3,h3⟩:=hP;rw[hmn,A1E] at h3
 symm
 exact k p H3 hp e3 h3
def spV:Sp:=λ_ _ _ _=>False
def Rl (K:W.Frag):Sp:=spV
def Wj (K:W.Frag):Sp:=spV
def Rm (K:W.Frag):Sp:=spV
def U9 (K:W.Frag):Sp:=spV
def V7 (K:W.Frag):Sp:=spV
def Es (K:W.Frag):Sp:=spV
def Ek (K:W.Frag):Sp:=spV
def a69 (K:W.Frag):Sp:=spV
def Iq (K:W.Frag):Sp:=spV
def Ht (K:W.Frag):Sp:=spV
def F1 (K:W.Frag):Sp:=spV
def Kl (K:W.Frag):Sp:=spV
local macro_rules | `(tactic| walk_at "rq1") => `(tactic| with_reducible first | refine ag3 ?_ | refine a32 ?_ | refine a46 ?_ | refine Zn ?_)
theorem len1 {ws:List V}{a:Str}(h:ws.length=[a].length):∃ v,ws=[v]:=by
 match ws,h with
 | [v],_=>exact⟨v,rfl⟩
theorem ar2 {ws:List V}{a b:Str}(h:ws.length=[a,b].length):∃ v u,ws=[v,u]:=by
 match ws,h with
 | [v,u],_=>exact⟨v,u,rfl⟩
theorem Jz {f:Addr}{fd:FuncData}(F:Fun K "__init__" "NoPaper.__init__" Bb f fd)(T:Fj mg){C_HalfError:Addr}{C_NoPaper:Addr}(x_HalfError:Cp K mg C_HalfError C_HalfError)(x_NoPaper:Ds K mg C_NoPaper C_HalfError):FnOk P w K mg base CX0 1 f fd ["self","word","row"] (spX C_NoPaper ["word","row"]):=by
 refine F.ok Jl (λvs H Q E h=>?_) (λcdv A outer s H vs Q E hr h=>?_)
 . obtain⟨a,ws,rfl,hl,_⟩:=h;obtain⟨v,u,rfl⟩:=ar2 hl;rfl
 obtain⟨a,ws,rfl,hl,ha,k⟩:=h;obtain⟨v,u,rfl⟩:=ar2 hl
 with_reducible refine⟨_,(A2 (Qe (K:=K) (pv 0) (pv 1) ⋯)
  (A4 (Qe (K:=K) (pv 0) (pv 2) ⋯))),?_⟩
 symm
 refine a90 ha x_NoPaper.xc x_NoPaper.n_word λdx H1 h1 h2 h3 h4 h5=>?_
 symm
 refine a95 h4 h5 x_NoPaper.xc x_NoPaper.n_row ∅ λH2 g1 g2=>?_
 symm
 exact k dx H2 h1 h2 (λb b1 b2=>(g1 b b2).trans (h3 b b1 b2)) ((g1 a (Ne.symm h2)).trans h4) g2
def Ee (K:W.Frag):Sp:=λvs H Q _=>∃ r v sv ns ps as,vs=[.ref r,v,sv]/\Is K H (.tuple [.str "row"]) v/\TabR H r ns as (Way ps)/\HalfW ns ps/\∀ b H',Keep [r] H H'->(b=true↔unP ns ps=[])->Q (.bl b) H'
def Du (K:W.Frag):Sp:=λvs H Q _=>∃ r v sv nv,vs=[r,v,sv,nv]/\Is K H (.tuple [.str "row"]) v/\Q (.int 1) H
theorem M8 {f:Addr}{fd:FuncData}(F:Fun K "fits_rule" "fits_rule" Fd f fd)(T:Fj mg)(Fo:Fnd P w K mg base 1 "is_row_of" ["reach"] (Ea K))(Dg:Fnd P w K mg base 1 "reach_turned" ["reach"] (Es K))(Dh:Fnd P w K mg base 1 "reach_called" ["reach","names"] (Ek K))(Hh:Fnd P w K mg base 1 "fits_ask" ["reach","rule","spoken"] (Iq K))(F7:Fnd P w K mg base 1 "fits_ends" ["reach","rule","spoken"] (Ht K))(Dy:Fnd P w K mg base 1 "fits_joined" ["reach","rule","spoken"] (F1 K)):FnOk P w K mg base CX0 2 f fd ["reach","rule","spoken"] (Ee K):=by
 refine F.ok Nq (λvs H Q E h=>?_) (λcdv A outer s H vs Q E hr h=>?_)
 . obtain⟨r,v,sv,ns,ps,as,rfl,_⟩:=h;rfl
 obtain⟨r,v,sv,ns,ps,as,rfl,hI,hT,hW,k⟩:=h;have hu:=C4 hr;have hq:=C3 hr
 with_reducible refine⟨_,(A2 (Ax (Af (B5 (K:=K) hq) (Ah (A6 (K:=K) hu) (pv 1) A3 (by ac_rfl)) A7 (Ag _)) (A4 (Ab (As Fo (hr.mono nofun) ⋯ (A0 (pv 0) A1)))) Ac)
  (A2 (Ax (Af (B5 (K:=K) hq) (Ah (A6 (K:=K) hu) (pv 1) A3 (by ac_rfl)) A7 (Ag _)) (A4 (Ab (As Hh (hr.mono nofun) ⋯ (A0 (pv 0) (A0 (pv 1) (A0 (pv 2) A1)))))) Ac)
  (A2 (Ax (Af (Ga (K:=K) hq) (Ah (A6 (K:=K) hu) (pv 1) A3 (by ac_rfl)) (Ae (A0 A7 (A0 A7 A1))) ⋯) (A4 (Ab (As F7 (hr.mono nofun) ⋯ (A0 (pv 0) (A0 (pv 1) (A0 (pv 2) A1)))))) Ac)
  (A2 (Ax (Af (Ga (K:=K) hq) (Ah (A6 (K:=K) hu) (pv 1) A3 (by ac_rfl)) (Ae (A0 A7 (A0 A7 A1))) ⋯) (A4 (Ab (As Dy (hr.mono nofun) ⋯ (A0 (pv 0) (A0 (pv 1) (A0 (pv 2) A1)))))) Ac)
  (A2 (Ax (Af (B5 (K:=K) hq) (Ah (A6 (K:=K) hu) (pv 1) A3 (by ac_rfl)) A7 (Ag _)) (A4 (Ab (Az (B5 (K:=K) hq) (pv 0) (As Dg (hr.mono nofun) ⋯ (A0 (Ah (A6 (K:=K) hu) (pv 2) A3 (by ac_rfl)) A1)) (Ag _)))) Ac)
  (A4 (Ab (Cm (Az (B5 (K:=K) hq) (A8 (An (K:=K)) ⋯ T.b_len PyProof.Rows.Boot.«len» (A0 (Ah (A6 (K:=K) hu) (pv 1) A3 (by ac_rfl)) A1)) (A8 (An (K:=K)) ⋯ T.b_len PyProof.Rows.Boot.«len» (A0 (Ah (A6 (K:=K) hu) (pv 2) A3 (by ac_rfl)) A1)) (Ag _)) (Cy (Az (B5 (K:=K) hq) (pv 0) (As Dh (hr.mono nofun) ⋯ (A0 (Ah (A6 (K:=K) hu) (pv 2) A3 (by ac_rfl)) (A0 (Ah (A6 (K:=K) hu) (pv 1) A3 (by ac_rfl)) A1))) (Ag _))))))))))),?_⟩
 obtain⟨ta,xs,rfl,hS,hL⟩:=Is.tup hI;obtain⟨y0,hy0,hI0⟩:=IsL.at hL (show [PyData.str "row"][0]? = some (.str "row") from rfl);simp only[Is] at hI0;subst hI0
 symm
 refine Bu hS (show atI xs ((0:Nat):Int)=_ from B0 hy0) ?_
 symm
 exact⟨r,ns,ps,as,rfl,hT,hW,k⟩
theorem L1 {f:Addr}{fd:FuncData}(F:Fun K "number_due" "number_due" Ed f fd)(T:Fj mg)(Jv:Fnd P w K mg base 1 "choices" ["many","some"] (Kl K)):FnOk P w K mg base CX0 2 f fd ["reach","rule","spoken","numbers"] (Du K):=by
 refine F.ok Lp (λvs H Q E h=>?_) (λcdv A outer s H vs Q E hr h=>?_)
 . obtain⟨r,v,sv,nv,rfl,_⟩:=h;rfl
 obtain⟨r,v,sv,nv,rfl,hI,k⟩:=h;have hu:=C4 hr;have hq:=C3 hr
 with_reducible refine⟨_,(A2 (Ax (Af (B5 (K:=K) hq) (Ah (A6 (K:=K) hu) (pv 1) A3 (by ac_rfl)) A7 (Ag _)) (A4 (Ab A3)) Ac)
  (A2 (Ax (Af (B5 (K:=K) hq) (Ah (A6 (K:=K) hu) (pv 1) A3 (by ac_rfl)) A7 (Ag _)) (A4 (Ab (Aw Ct (Ah (A6 (K:=K) hu) (pv 3) A3 (by ac_rfl)) (Ah (A6 (K:=K) hu) (pv 3) A3 (by ac_rfl))))) Ac)
  (A2 (Ax (Af (B5 (K:=K) hq) (Ah (A6 (K:=K) hu) (pv 1) A3 (by ac_rfl)) A7 (Ag _)) (A4 (Ab (Aw Ct (Aw Ct (Ah (A6 (K:=K) hu) (pv 3) A3 (by ac_rfl)) (Ah (A6 (K:=K) hu) (pv 3) A3 (by ac_rfl))) (As Jv (hr.mono nofun) ⋯ (A0 (A8 (An (K:=K)) ⋯ T.b_len PyProof.Rows.Boot.«len» (A0 (pv 0) A1)) (A0 (A8 (An (K:=K)) ⋯ T.b_len PyProof.Rows.Boot.«len» (A0 (Ah (A6 (K:=K) hu) (pv 2) A3 (by ac_rfl)) A1)) A1)))))) Ac)
  (A4 (Ab (A8 (Mw (K:=K) ⋯) ⋯ T.b_sum PyProof.Rows.Boot.«sum» (A0 (pv 3) A1))))))),?_⟩
 obtain⟨ta,xs,rfl,hS,hL⟩:=Is.tup hI;obtain⟨y0,hy0,hI0⟩:=IsL.at hL (show [PyData.str "row"][0]? = some (.str "row") from rfl);simp only[Is] at hI0;subst hI0
 symm
 refine Bu hS (show atI xs ((0:Nat):Int)=_ from B0 hy0) ?_
 symm
 exact k
def wdO (b:Bool)(is:List Int)(un:List (Str×Str))(n:Int):Option Str:=
 if b=false then some "row" else if is≠[] then some "ref" else if un≠[] then some "half" else if n≠1 then some "number" else none
def wdV:Option Str->V
 |none=>.non
 |some z=>.str z
def F8 (K:W.Frag):Sp:=λvs H Q _=>(∃ rv row lv,vs=[rv,row,.non,lv]/\Q (.str "row") H) \/
 ∃ rv row r p D R n b is ns ps as xs,vs=[rv,row,.ref r,.ref p]/\Is K H (.tuple [D,R,.int n]) row/\TabR H r ns as (Way ps)/\HalfW ns ps/\Ru R b is/\H p=some (.lst xs)/\(is≠[]->∃ j∈is,j<0\/(xs.length:Int)<=j)/\∀ H',Keep [r] H H'->Q (wdV (wdO b is (unP ns ps) n)) H'
theorem Ru.short {D:PyData} {b:Bool} {is:List Int} (h:Ru D b is):is.length<=1000000:=by cases h<;>simp
theorem Vz {is:List Int}{n:Nat}(h:is≠[]->∃ j∈is,j<0\/(n:Int)<=j):(is.map λj=>decide (j<0)||decide ((n:Int)<=j)).any id=decide (is≠[]):=by
 cases is with
 |nil=>rfl
 |cons j js=>obtain⟨i,hi,hj⟩:=h ∅;rw[A0U ∅,A1D];exact⟨_,List.mem_map.mpr ⟨i,hi,rfl⟩,by rcases hj with h|h<;>simp[h]⟩
theorem Oc {f:Addr}{fd:FuncData}(F:Fun K "word_due" "word_due" Hd f fd)(T:Fj mg)(Ge:Fnd P w K mg base 4 "is_rule" ["thing","reach"] (Gi K))(G9:Fnd P w K mg base 1 "refs_of" ["rule"] (Hi K))(Dw:Fnd P w K mg base 2 "fits_rule" ["reach","rule","spoken"] (Ee K))(D6:Fnd P w K mg base 2 "number_due" ["reach","rule","spoken","numbers"] (Du K)):FnOk P w K mg base CX0 5 f fd ["rows","row","reach","reaches"] (F8 K):=by
 refine F.ok Cu (λvs H Q E h=>?_) (λcdv A outer s H vs Q E hr h=>?_)
 . obtain⟨rv,row,lv,rfl,_⟩ | ⟨rv,row,r,p,D,R,n,b,is,ns,ps,as,xs,rfl,_⟩:=h<;>rfl
 have hu:=C4 hr;have hq:=C3 hr;rcases h with ⟨rv,row,lv,rfl,k⟩|⟨rv,row,r,p,D,R,n,b,is,ns,ps,as,xs,rfl,hI,hT,hW,hR,hp,hbad,k⟩
 . with_reducible refine⟨_,(A2 (Ax (PW.pt (Ka (Af Qb (pv 2) Cs (Ag _)) (Fx (D4 (Bt (As Ge (hr.mono nofun) ⋯ (A0 (Ah (A6 (K:=K) hu) (pv 1) A3 (by ac_rfl)) (A0 (pv 2) A1)))))))) (A4 (Ab A7)) Ac)
   (A2 (Ao (i:=4) Cu.nd ⋯ (by eq_refl) (As G9 (hr.mono nofun) ⋯ (A0 (Ah (A6 (K:=K) hu) (pv 1) A3 (by ac_rfl)) A1)))
   (A2 (Ax (Bt (A8 (Jd (K:=K) ⋯) ⋯ T.b_any PyProof.Rows.Boot.«any» (A0 (Ca ["ref"] ["reaches"] [3] ⋯ ⋯ ⋯ (Bp (K:=K) hu (pv 4)) (λ_ _ _ _=>(Aq (i:=0) (by with_unfolding_all (show(["ref","reaches"]:List Str).Nodup;decide +kernel)) ⋯ (by eq_refl))) (By nofun) (λ_ _ _ _=>Bn) (λ_ _ _ _=>(ai2 (Az Qn (pv 0) A3 (Ag _)) (Cy (Az Wv (pv 0) (A8 (An (K:=K)) ⋯ T.b_len PyProof.Rows.Boot.«len» (A0 (pv 1) A1)) (Ag _)))))) A1))) (A4 (Ab A7)) Ac)
   (A2 (Hj (i:=5) ["ref"] ["reaches"] [3] ⋯ ⋯ ⋯ Cu.nd ⋯ ⋯ (Bp (K:=K) hu (pv 4)) (λ_ _ _ _=>(Aq (i:=0) (by with_unfolding_all (show(["ref","reaches"]:List Str).Nodup;decide +kernel)) ⋯ (by eq_refl))) (By nofun) (λ_ _ _ _=>Bn) (λ_ _ _ _=>(Ah (A6 (K:=K) hu) (pv 1) (pv 0) (by ac_rfl))))
   (A2 (Ax (D4 (Bt (As Dw (hr.mono nofun) ⋯ (A0 (pv 2) (A0 (Ah (A6 (K:=K) hu) (pv 1) A3 (by ac_rfl)) (A0 (pv 5) A1)))))) (A4 (Ab A7)) Ac)
   (A2 (Ax (Af (Gd (K:=K) hq) (Ah (A6 (K:=K) hu) (pv 1) A3 (by ac_rfl)) (As D6 (hr.mono nofun) ⋯ (A0 (pv 2) (A0 (Ah (A6 (K:=K) hu) (pv 1) A3 (by ac_rfl)) (A0 (pv 5) (A0 (Ca ["ref"] ["rows"] [0] ⋯ ⋯ ⋯ (Bp (K:=K) hu (pv 4)) (λ_ _ _ _=>(Aq (i:=0) (by with_unfolding_all (show(["ref","rows"]:List Str).Nodup;decide +kernel)) ⋯ (by eq_refl))) (By nofun) (λ_ _ _ _=>Bn) (λ_ _ _ _=>(Ah (A6 (K:=K) hu) (Ah (A6 (K:=K) hu) (pv 1) (pv 0) (by ac_rfl)) A3 (by ac_rfl)))) A1))))) (Ag _)) (A4 (Ab A7)) Ac)
   (A4 (Ab Cs)))))))),?_⟩
   symm
   exact k
 with_reducible refine⟨_,(A2 (Ax (PW.pt (Ka (Af Qb (pv 2) Cs (Ag _)) (Fx (D4 (Bt (As Ge (hr.mono nofun) ⋯ (A0 (Ah (A6 (K:=K) hu) (pv 1) A3 (by ac_rfl)) (A0 (pv 2) A1)))))))) (A4 (Ab A7)) Ac)
 (A2 (Ao (i:=4) Cu.nd ⋯ (by eq_refl) (As G9 (hr.mono nofun) ⋯ (A0 (Ah (A6 (K:=K) hu) (pv 1) A3 (by ac_rfl)) A1)))
 (A2 (Ax (Bt (A8 (Jd (K:=K) ⋯) ⋯ T.b_any PyProof.Rows.Boot.«any» (A0 (Ca ["ref"] ["reaches"] [3] ⋯ ⋯ ⋯ (Bp (K:=K) hu (pv 4)) (λ_ _ _ _=>(Aq (i:=0) (by with_unfolding_all (show(["ref","reaches"]:List Str).Nodup;decide +kernel)) ⋯ (by eq_refl))) (By nofun) (λ_ _ _ _=>Bn) (λ_ _ _ _=>(ai2 (Az Qn (pv 0) A3 (Ag _)) (Cy (Az Wv (pv 0) (A8 (An (K:=K)) ⋯ T.b_len PyProof.Rows.Boot.«len» (A0 (pv 1) A1)) (Ag _)))))) A1))) (A4 (Ab A7)) Ac)
 (A2 (Hj (i:=5) ["ref"] ["reaches"] [3] ⋯ ⋯ ⋯ Cu.nd ⋯ ⋯ (Bp (K:=K) hu (pv 4)) (λ_ _ _ _=>(Aq (i:=0) (by with_unfolding_all (show(["ref","reaches"]:List Str).Nodup;decide +kernel)) ⋯ (by eq_refl))) (By nofun) (λ_ _ _ _=>Bn) (λ_ _ _ _=>(Ah (A6 (K:=K) hu) (pv 1) (pv 0) (by ac_rfl))))
 (A2 (Ax (D4 (Bt (As Dw (hr.mono nofun) ⋯ (A0 (pv 2) (A0 (Ah (A6 (K:=K) hu) (pv 1) A3 (by ac_rfl)) (A0 (pv 5) A1)))))) (A4 (Ab A7)) Ac)
 (A2 (Ax (Af (Gd (K:=K) hq) (Ah (A6 (K:=K) hu) (pv 1) A3 (by ac_rfl)) (As D6 (hr.mono nofun) ⋯ (A0 (pv 2) (A0 (Ah (A6 (K:=K) hu) (pv 1) A3 (by ac_rfl)) (A0 (pv 5) (A0 (Ca ["ref"] ["rows"] [0] ⋯ ⋯ ⋯ (Bp (K:=K) hu (pv 4)) (λ_ _ _ _=>(Aq (i:=0) (by with_unfolding_all (show(["ref","rows"]:List Str).Nodup;decide +kernel)) ⋯ (by eq_refl))) (By nofun) (λ_ _ _ _=>Bn) (λ_ _ _ _=>(Ah (A6 (K:=K) hu) (Ah (A6 (K:=K) hu) (pv 1) (pv 0) (by ac_rfl)) A3 (by ac_rfl)))) A1))))) (Ag _)) (A4 (Ab A7)) Ac)
 (A4 (Ab Cs)))))))),?_⟩
 obtain⟨ta,zs,rfl,hS,hL⟩:=Is.tup hI;obtain⟨y1,hy1,hI1⟩:=IsL.at hL (show [D,R,PyData.int n][1]? = some R from rfl);obtain⟨y2,hy2,hI2⟩:=IsL.at hL (show [D,R,PyData.int n][2]? = some (.int n) from rfl);simp only[Is] at hI2;subst hI2
 symm
 rw[A0L (by intro z;cases A21 z)]
 symm
 refine Bu hS (show atI zs ((1:Nat):Int)=_ from B0 hy1) ?_
 symm
 refine⟨y1,_,R,b,is,rfl,hI1,hR,λH1 e1=>?_⟩
 cases b with
 |false=>
   symm
   exact k H1 (e1.keep _)
 |true=>
   symm
   refine Bu (e1.seqT hS) (show atI zs ((1:Nat):Int)=_ from B0 hy1) ?_
   symm
   refine⟨y1,R,is,rfl,Is.mono e1 _ _ hI1,hR,λq H2 hq2 e2 h2=>?_⟩
   symm
   have hp2:H2 p=some (.lst xs):=(e1.trans e2) _ _ hp;refine Z6 (SqL.of h2) ?_;refine Ii (K:=K) (Jg (xs:=is.map V.int)) is (by rw[A05]) (λj=>decide (j<0)||decide ((xs.length:Int)<=j)) (by rw[A05];exact hR.short) (λH' e=>SqL.of (e _ _ h2)) (λm j xv H3 S hj hxv e3 hS3=>?_) (λq3 H3 hq3 e3 h3=>?_)
   . rw[A0G,hj] at hxv
     cases hxv
     symm
     have hp3:=e3 _ _ hp2;refine Ki (λh=>?_) (λh=>?_)
     . have:=hS3 H3 (.refl _);rw[A0U h,Bool.true_or] at this;exact this
     symm
     have:=hS3 H3 (.refl _);rw[A0R h,A44] at this;exact this
   symm
   refine ad6 h3 ?_
   symm
   have e13:=(e1.trans e2).trans e3;rw[Vz hbad]
   cases is with
   |cons j js=>
     rw[if_pos (show decide ((j :: js)≠[])=true by simp)]
     symm
     exact k H3 (e13.keep _)
   |nil=>
     rw[A0L (show ¬ (decide (([]:List Int)≠[])=true) by decide)]
     symm
     refine Z6 (SqL.of (e3 _ _ h2)) ?_;refine Gf (Jg (xs:=[])) (λ_ _ _ H'=>Same H3 H') (λ_ H' _ e _=>e) (λ_ _ _ H' e=>SqL.of (e _ _ (e3 _ _ h2))) (λq4 i x acc H4 hq4 hx hi hl hacc hP=>by cases hx) (λq4 acc H4 hq4 hacc hl e4=>?_)
     symm
     have e14:=e13.trans e4;refine Bu (e14.seqT hS) (show atI zs ((1:Nat):Int)=_ from B0 hy1) ?_
     symm
     obtain rfl:R = .tuple [.str "row"]:=by cases hR;rfl
     refine⟨r,y1,_,ns,ps,as,rfl,Is.mono e14 _ _ hI1,hT.same e14,hW,λb H5 k5 hb=>?_⟩;have k15:Keep [r] H H5:=(e14.keep _).trans k5
     cases b with
     |false=>
       symm
       have hun:unP ns ps≠[]:=λz=>by have:=hb.mpr z;cases this
       have:=k H5 k15;rw[show wdO true [] (unP ns ps) n=some ("half":Str) by unfold wdO;rw[if_neg nofun,if_neg ∅,if_pos hun]] at this;exact this
     |true=>
       have hun:unP ns ps=[]:=hb.mp rfl
       symm
       have hS5:=k15.fz.seq hS
       have h5q:H5 q=some (.lst []):=k5.1 q _ (λz=>by rw[A12.mp z] at hq2;rcases hT.top with g|⟨_,g⟩<;>(have:=e1 _ _ g;rw[hq2] at this;cases this)) (e4 _ _ (e3 _ _ h2))
       refine Bu hS5 (show atI zs ((2:Nat):Int)=_ from B0 hy2) ?_
       symm
       refine Bu hS5 (show atI zs ((1:Nat):Int)=_ from B0 hy1) ?_
       symm
       refine Z6 (SqL.of h5q) ?_;refine Gf (Jg (xs:=[])) (λ_ _ _ H'=>Same H5 H') (λ_ H' _ e _=>e) (λ_ _ _ H' e=>SqL.of (e _ _ h5q)) (λq6 i x acc H6 hq6 hx hi hl hacc hP=>by cases hx) (λq6 acc H6 hq6 hacc hl e6=>?_)
       symm
       have k16:=k15.trans (e6.keep [r]);have hI6:Is K H6 (.tuple [.str "row"]) y1:=Is.mono e6 _ _ (Is.fz k5.fz _ _ (by rfl) (Is.mono e14 _ _ hI1));refine⟨_,y1,_,_,rfl,hI6,?_⟩
       symm
       have:=k H6 k16;refine a00 (λh=>?_) (λh=>?_)
       . symm
         rw[show wdO true [] (unP ns ps) n=some ("number":Str) by unfold wdO;rw[if_neg nofun,if_neg ∅,if_neg (λz=>z hun),if_pos (λz=>h (congrArg V.int z))]] at this;exact this
       symm
       rw[show wdO true [] (unP ns ps) n=none by unfold wdO;rw[if_neg nofun,if_neg ∅,if_neg (λz=>z hun),if_neg (λz=>z (V.int.inj h))]] at this;exact this
theorem Zx {t:TT}{ta tb:TE}{σ:L2.St}{H:Hp}{Q:VK}(k:t σ H λc H1=>if c=true then ta σ H1 Q else tb σ H1 Q):tIf t ta tb σ H Q:=k
def DkH (D:PyData):Prop:=∃ n w W,Dk n w W D/\n<=60/\w<=1000000/\W<=1000
inductive Rw:PyData->Nat->Option Str->Prop
 |bad {D:PyData} {k:Nat}:a77 D=false->Rw D k (some "row")
 |tale {h R:PyData} {n:Int} {k:Nat}:DkH h->¬ TaD h->Rw (.tuple [h,R,.int n]) k (some "row")
 |ok {ns:List Str} {ps:List (Str×Str)} {R:PyData} {n:Int} {b:Bool} {is:List Int} {k:Nat}:0<=n->DkH (hfD ns ps)->TaD (hfD ns ps)->HalfW ns ps->Ru R b is->(is≠[]->∃ j∈is,j<0\/(k:Int)<=j)->Rw (.tuple [hfD ns ps,R,.int n]) k (wdO b is (unP ns ps) n)
def Fl (ds:List PyData):Option (Str×Nat)->Prop
 |none=>∀ i D,ds[i]? = some D->Rw D i none
 |some (w,j)=>(∃ D,ds[j]? = some D/\Rw D j (some w))/\∀ i D,i<j->ds[i]? = some D->Rw D i none
def flD:Option (Str×Nat)->PyData
 |none=>.none
 |some (w,j)=>.tuple [.str w,.int (j:Int)]
theorem Fl.at {ds:List PyData}{o:Option (Str×Nat)}(h:Fl ds o){i:Nat}{D:PyData}(hD:ds[i]? = some D)(hi:∀ w j,o=some (w,j)->i<=j):(Rw D i none/\∀ w j,o=some (w,j)->i+1<=j)\/∃ w,o=some (w,i)/\Rw D i (some w):=by
 cases o with
 |none=>exact .inl ⟨h i D hD,λw j e=>by cases e⟩
 |some q=>
   obtain⟨w,j⟩:=q;obtain⟨⟨D',h1,h2⟩,h3⟩:=h;have:=hi w j rfl;rcases Nat.lt_or_ge i j with g|g
   . exact .inl ⟨h3 i D g hD,λw' j' e=>by cases e;omega⟩
   obtain rfl:i=j:=by omega
   rw[h1] at hD
   cases hD;exact .inr ⟨w,rfl,h2⟩
def Cr (K:W.Frag):Sp:=λvs H Q _=>∃ v ds o,vs=[v]/\Is K H (.tuple ds) v/\ds.length<=2000/\Fl ds o/\∀ u H',Same H H'->Is K H' (flD o) u->Q u H'
theorem Lu {f:Addr}{fd:FuncData}(F:Fun K "rows_fault" "rows_fault" Eb f fd)(T:Fj mg)(Hn:Fnd P w K mg base 6 "reach_of" ["thing"] (Fn K))(Dc:Fnd P w K mg base 2 "is_row_frame" ["thing"] (D0 K))(Gz:Fnd P w K mg base 5 "word_due" ["rows","row","reach","reaches"] (F8 K)):FnOk P w K mg base CX0 7 f fd ["rows"] (Cr K):=by
 refine F.ok Bj (λvs H Q E h=>?_) (λcdv A outer s H vs Q E hr h=>?_)
 . obtain⟨v,ds,o,rfl,_⟩:=h;rfl
 obtain⟨v,ds,o,rfl,hI,hlen,hF,k⟩:=h;have hu:=C4 hr;have hq:=C3 hr;obtain⟨va,xs,rfl,hS,hX⟩:=hI.tup;have hxl:=IsL.length hX
 with_reducible refine⟨_,(A2 (Ao (i:=1) Bj.nd ⋯ (by eq_refl) (Co A1))
  (A2 (Hv A2C ⋯ (Uh (K:=K) ⋯ T.b_enumerate (A0 (pv 0) A1)) (Gj (K:=K) (n:=2) ⋯ (Bw (Aq (i:=2) Bj.nd ⋯ (by eq_refl)) (Bw (Aq (i:=3) Bj.nd ⋯ (by eq_refl)) Go)))
  (A2 (Ao (i:=4) Bj.nd ⋯ (by eq_refl) (L4 (Bt (As Dc (hr.mono nofun) ⋯ (A0 (pv 3) A1))) (As Hn (hr.mono nofun) ⋯ (A0 (Ah (A6 (K:=K) hu) (pv 3) A3 (by ac_rfl)) A1)) Cs))
  (A2 (Ao (i:=5) Bj.nd ⋯ (by eq_refl) (As Gz (hr.mono nofun) ⋯ (A0 (pv 0) (A0 (pv 3) (A0 (pv 4) (A0 (pv 1) A1))))))
  (A2 (Ax (Af J5 (pv 5) Cs (Ag _)) (A4 (Ab (Ae (A0 (pv 5) (A0 (pv 2) A1))))) Ac)
  (A4 (Jj (Kc (K:=K) A2K A40 A41 (mm G8) (pv 1) (A0 (pv 4) A1))))))))
  (A4 (Ab Cs)))),?_⟩
 symm
 refine Ck (A5 ∅) λp H1 hp e1 h1=>?_
 symm
 refine Q2 (e1.seqT hS) (λi σ H2=>∃ x1 x2 x3 x4 ys,σ=[some (.ref va),some (.ref p),x1,x2,x3,x4]/\Same H H2/\H2 p=some (.lst ys)/\ys.length=i/\∀ w j,o=some (w,j)->i<=j) ⟨_,_,_,_,[],rfl,e1,h1,rfl,λ_ _ _=>A2R _⟩ (λi σ' H' hP=>?_) (λi x σ' H' H2 hx hP e2=>?_) (fun σ' H2 hP=>?_)
 . obtain⟨_,_,_,_,_,_,e,_⟩:=hP;exact e.seqT hS
 . obtain⟨x1,x2,x3,x4,ys,rfl,e0,h0,hyl,hj⟩:=hP;have e12:=e0.trans e2;have h2:=e2 _ _ h0;obtain⟨D,hD,hIx⟩:=IsL.get (IsL.mono e12 _ _ hX) hx;have hat:=hF.at hD hj;have hil:i<ds.length:=(A02.mp hD).1
   obtain⟨o',hR,hend⟩:∃ o',Rw D i o'/\((o'=none/\∀ w j,o=some (w,j)->i+1<=j)\/∃ w,o'=some w/\o=some (w,i)):=by
    rcases hat with ⟨h1,h2⟩|⟨w,h1,h2⟩
    . exact⟨none,h1,.inl ⟨rfl,h2⟩⟩
    exact⟨some w,h2,.inr ⟨w,rfl,h1⟩⟩
   symm
   refine Zx ?_
   symm
   refine⟨x,D,rfl,hIx,?_⟩;refine⟨_,rfl,?_⟩
   have bad:∀ {H3:Hp} {w:Str},Same H2 H3->o'=some w->∀ t H4,Same H3 H4->H4 t=some (.tup [.str w,.int (i:Int)])->Q (.ref t) H4:=fun {H3 w} e3 ho t H4 e4 h4=>by
    rcases hend with ⟨h,_⟩|⟨w',h1,h2⟩
    . rw[ho] at h
      cases h
    rw[ho] at h1
    cases h1;subst h2;exact k _ H4 ((e12.trans e3).trans e4) (Is.of_tup (SqT.of h4) (.cons (by simp only[Is]) (.one (by simp only[Is]))))
   cases hR with
   |bad hf=>
     rw[A0L (by rw[hf];exact A0B)]
     symm
     refine .inl ⟨_,_,_,rfl,?_⟩
     symm
     rw[A0Q (show(!decide (V.str "row" = V.non))=true by decide)]
     symm
     refine Ad (A5 ∅) λt H3 ht3 e3 h3=>?_
     symm
     exact bad (.refl _) rfl t H3 e3 h3
   |@tale h R n _ hd ht=>
     obtain ⟨m,w,W,hDk,hm,hw,hWw⟩:=hd;obtain⟨ta,zs,rfl,hSx,hL⟩:=Is.tup hIx;obtain⟨y0,hy0,hI0⟩:=IsL.at hL (show [h,R,PyData.int n][0]? = some h from rfl)
     cases hrf:a77 (.tuple [h,R,.int n]) with
     |false=>
       rw[A0L A0B]
       symm
       refine .inl ⟨_,_,_,rfl,?_⟩
       symm
       rw[A0Q (show(!decide (V.str "row" = V.non))=true by decide)]
       symm
       refine Ad (A5 ∅) λt H3 ht3 e3 h3=>?_
       symm
       exact bad (.refl _) rfl t H3 e3 h3
     |true=>
       rw[A0Q rfl]
       symm
       refine Bu hSx (show atI zs ((0:Nat):Int)=_ from B0 hy0) ?_
       symm
       refine⟨y0,h,m,w,W,rfl,hI0,hDk,hm,hw,hWw,λ_ H3 e3=>?_,λhT=>absurd hT ht⟩
       symm
       refine .inl ⟨_,_,_,rfl,?_⟩
       symm
       rw[A0Q (show(!decide (V.str "row" = V.non))=true by decide)]
       symm
       refine Ad (A5 ∅) λt H4 ht4 e4 h4=>?_
       symm
       exact bad e3 rfl t H4 e4 h4
   |@ok ns ps R n b is _ h0n hd ht hW hRu hb=>
     obtain⟨m,w,W,hDk,hm,hw,hWw⟩:=hd;obtain⟨ta,zs,rfl,hSx,hL⟩:=Is.tup hIx;obtain⟨y0,hy0,hI0⟩:=IsL.at hL (show [hfD ns ps,R,PyData.int n][0]? = some (hfD ns ps) from rfl);rw[A0Q (show a77 (.tuple [hfD ns ps,R,.int n])=true from A0U h0n)]
     symm
     refine Bu hSx (show atI zs ((0:Nat):Int)=_ from B0 hy0) ?_
     symm
     refine⟨y0,_,m,w,W,rfl,hI0,hDk,hm,hw,hWw,λhno=>absurd ht hno,λ_=>⟨ns,ps,rfl,hW,λr as H3 hr3 has3 e3 hT=>?_⟩⟩;have h3:=e3 _ _ h2
     symm
     refine .inr ⟨_,_,r,p,_,R,n,b,is,ns,ps,as,ys,rfl,Is.mono e3 _ _ hIx,hT,hW,hRu,h3,by rw[hyl];exact hb,λH4 k4=>?_⟩;have e4:Same H2 H4:=λb o hb=>k4.1 b o (λz=>by rw[A12.mp z,hr3] at hb;cases hb) (e3 _ _ hb);have h4:=e4 _ _ h2;generalize hwo:wdO b is (unP ns ps) n=o'' at hend bad ⊢
     cases o'' with
     |some w'=>
       symm
       rw[if_pos (show(!decide (wdV (some w')=V.non))=true by simp[wdV])]
       symm
       refine Ad (A5 ∅) λt H5 ht5 e5 h5=>?_
       symm
       exact bad e4 rfl t H5 e5 h5
     |none=>
       symm
       rw[if_neg (show ¬ (!decide (wdV none=V.non))=true by simp[wdV])]
       symm
       refine Tg h4 (by omega) λH5 e5 h5=>?_
       symm
       rcases hend with ⟨_,hj'⟩|⟨w',h1,_⟩
       . exact⟨_,_,_,_,_,rfl,(e12.trans e4).off hp e5,h5,by rw[A0H,A1F,hyl],hj'⟩
       cases h1
 obtain⟨x1,x2,x3,x4,ys,rfl,e0,h0,hyl,hj⟩:=hP
 symm
 refine k _ H2 e0 ?_
 cases o with
 |none=>simp only[flD,Is]
 |some q=>obtain⟨w,j⟩:=q;obtain⟨⟨D,h,_⟩,_⟩:=hF;have:=hj w j rfl;have:=(A02.mp h).1;omega
local macro_rules | `(tactic| walk_at "rq1") => L2.mAlts "i_sRaise"
def tlW (len:Nat)(o:Option (Str×Nat))(al:Bool):Option (Str×Int):=
 if len<1\/1200<len then some ("shape",-1) else match o with
  |some (w,j)=>some (w,(j:Int))
  |none=>if al=true then none else some ("last",(len:Int)-1)
theorem Pl {len:Nat}{w:Str}{j:Nat}{al:Bool}(h:¬ (len<1\/1200<len)):tlW len (some (w,j)) al=some (w,(j:Int)):=by unfold tlW;rw[A0L h]
theorem Pd {len:Nat}(h:¬ (len<1\/1200<len)):tlW len none false=some (("last":Str),(len:Int)-1):=by unfold tlW;rw[A0L h];rfl
theorem Oe {len:Nat}(h:¬ (len<1\/1200<len)):tlW len none true=none:=by unfold tlW;rw[A0L h];rfl
theorem K0 {len:Nat}{o:Option (Str×Nat)}{al:Bool}(h:len<1\/1200<len):tlW len o al=some (("shape":Str),-1):=by unfold tlW;rw[A0Q h]
theorem a47 {ys:List V}{v:V}(h:ys[ys.length-1]? = some v):atI ys (-1)=some v:=by
 have hi:=(A02.mp h).1;unfold atI
 have e:ixN ys.length (-1)=some (ys.length-1):=by unfold ixN;rw[A0L (by omega),A0Q (by omega)];congr 1;omega
 rw[e,A3I,h]
def ad3 (ds:List PyData)(ns:List Str)(ps:List (Str×Str))(al:Bool):Prop:=∃ ns' ps' R,ds[ds.length-1]? = some (.tuple [hfD ns' ps',R,.int 1])/\HalfW ns' ps'/\(al=true↔((∀ z,z∈ns'↔z∈ns)/\∀ z∈ns',∀ y,Way ps' z y↔Way ps z y))
def Di (C:Addr)(K:W.Frag):Sp:=λvs H Q E=>∃ hv v ns ps ds o al,vs=[hv,v]/\Is K H (hfD ns ps) hv/\HalfW ns ps/\Is K H (.tuple ds) v/\ds.length<=2000/\Fl ds o/\(o=none->0<ds.length->ad3 ds ns ps al)/\(tlW ds.length o al=none->∀ H',Same H H'->Q (.int 1) H')/\∀ w j a H',tlW ds.length o al=some (w,j)->Same H H'->ExB false H' a C [("word",.str w),("row",.int j)]->E (.ref a) none H'
theorem K4 {f:Addr}{fd:FuncData}(F:Fun K "lets_count" "lets_count" E7 f fd)(T:Fj mg){C_HalfError:Addr}{C_NoName:Addr}{C_NoPaper:Addr}(x_HalfError:Cp K mg C_HalfError C_HalfError)(x_NoName:Hb K mg C_NoName C_HalfError)(x_NoPaper:Ds K mg C_NoPaper C_HalfError)(O9:Fnd P w K mg base 2 "alike" ["one","other"] (La K))(B6:Fnd P w K mg base 7 "rows_fault" ["rows"] (Cr K))(Br:Mkx P w K mg base 1 C_NoPaper "NoPaper" ["self","word","row"] (spX C_NoPaper ["word","row"])):FnOk P w K mg base (CX1 P w) 8 f fd ["half","paper"] (Di C_NoPaper K):=by
 refine F.ok1 Fv (λvs H Q E h=>?_) (λcdv A outer s H vs Q E hr h=>?_)
 . obtain⟨hv,v,ns,ps,ds,o,al,rfl,_⟩:=h;rfl
 obtain⟨hv,v,ns,ps,ds,o,al,rfl,hI,hW,hD,hlen,hF,hA,kq,ke⟩:=h;have hu:=C4 hr;have hq:=C3 hr;obtain⟨va,xs,rfl,hS,hX⟩:=hD.tup;have hxl:=IsL.length hX;have fin:∀ {w:Str} {j:Int} {H1:Hp},tlW ds.length o al=some (w,j)->Same H H1->∀ a H2 H3,H1 a=none->Same H1 H2->ExB false H3 a C_NoPaper [("word",.str w),("row",.int j)]->(∀ b o,b≠a->H2 b=some o->H3 b=some o)->E (.ref a) none H3:=fun {w j H1} hw e1 a H2 H3 ha e2 hE kp=>ke w j a H3 hw (e1.trans λb o q=>kp b o (ne_of_none q ha) (e2 _ _ q)) hE
 with_reducible refine⟨_,(A2 (Ax (PW.pt (Ka (D4 (Bt (A8 (Ap (K:=K)) ⋯ T.b_isinstance PyProof.Rows.Boot.«isinstance» (A0 (pv 1) (A0 (Bq (v:=.ty "tuple") ⋯ T.b_tuple PyProof.Rows.Boot.«tuple» ⋯) A1))))) (Ka (Af Qn (A8 (An (K:=K)) ⋯ T.b_len PyProof.Rows.Boot.«len» (A0 (pv 1) A1)) A3 (Ag _)) (Fx (Af Ur (A8 (An (K:=K)) ⋯ T.b_len PyProof.Rows.Boot.«len» (A0 (pv 1) A1)) (Hl ⋯ T.g_MOST_ROWS) (Ag _)))))) (A4 (Lr ⋯ (T3 Br (hr.mono nofun) ⋯ (A0 A7 (A0 (Nc Hs A3) A1))))) Ac)
  (A2 (Ao (i:=2) Fv.nd ⋯ (by eq_refl) (As B6 (hr.mono nofun) ⋯ (A0 (pv 1) A1)))
  (A2 (Ax (Af J5 (pv 2) Cs (Ag _)) (A4 (Lr ⋯ (T3 Br (hr.mono nofun) ⋯ (A0 (Ah (A6 (K:=K) hu) (pv 2) A3 (by ac_rfl)) (A0 (Ah (A6 (K:=K) hu) (pv 2) A3 (by ac_rfl)) A1))))) Ac)
  (A2 (Ax (D4 (Bt (As O9 (hr.mono nofun) ⋯ (A0 (Ah (A6 (K:=K) hu) (Ah (A6 (K:=K) hu) (pv 1) (Nc Hs A3) (by ac_rfl)) A3 (by ac_rfl)) (A0 (pv 0) A1))))) (A4 (Lr ⋯ (T3 Br (hr.mono nofun) ⋯ (A0 A7 (A0 (Aw P6 (A8 (An (K:=K)) ⋯ T.b_len PyProof.Rows.Boot.«len» (A0 (pv 1) A1)) A3) A1))))) Ac)
  (A4 (Ab (Ah (A6 (K:=K) hu) (Ah (A6 (K:=K) hu) (pv 1) (Nc Hs A3) (by ac_rfl)) A3 (by ac_rfl)))))))),?_⟩
 symm
 refine Hy hD ⟨_,rfl,?_⟩;rw[A0L (show ¬ ((!a67 (PyData.tuple ds))=true) by intro z;cases z)]
 symm
 refine Mb hD ?_
 symm
 refine Ki (λhc=>?_) (λhc=>?_)
 . symm
   refine Wm (by rfl) nofun λa H4 ha4 e4 hE=>?_
   symm
   refine Lv hE x_NoPaper.xc ha4 λH5 kp hE5=>?_;exact fin (by unfold tlW;rw[if_pos (.inl (by omega))]) (.refl H) a H4 H5 ha4 e4 hE5 kp
 symm
 refine Mb hD ?_
 symm
 refine Ki (λhc2=>?_) (λhc2=>?_)
 . symm
   refine Wm (by rfl) nofun λa H4 ha4 e4 hE=>?_
   symm
   refine Lv hE x_NoPaper.xc ha4 λH5 kp hE5=>?_;exact fin (by unfold tlW;rw[if_pos (.inr (by omega))]) (.refl H) a H4 H5 ha4 e4 hE5 kp
 have hin:¬ (ds.length<1\/1200<ds.length):=by omega
 symm
 refine⟨_,ds,o,rfl,hD,hlen,hF,λu H1 e1 hu1=>?_⟩
 cases o with
 |some q=>
   obtain⟨w,j⟩:=q;obtain⟨ta,zs,rfl,hSu,hLu⟩:=Is.tup hu1;obtain⟨y0,hy0,hI0⟩:=IsL.at hLu (show [PyData.str w,PyData.int (j:Int)][0]? = some (.str w) from rfl);obtain⟨y1,hy1,hI1⟩:=IsL.at hLu (show [PyData.str w,PyData.int (j:Int)][1]? = some (.int j) from rfl);simp only[Is] at hI0 hI1;subst hI0 hI1
   symm
   rw[if_pos (show(!decide (V.ref ta=V.non))=true by simp)]
   symm
   refine Bu hSu (show atI zs ((0:Nat):Int)=_ from B0 hy0) ?_
   symm
   refine Bu hSu (show atI zs ((1:Nat):Int)=_ from B0 hy1) ?_
   symm
   refine Wm (by rfl) nofun λa H4 ha4 e4 hE=>?_
   symm
   refine Lv hE x_NoPaper.xc (e1.free ha4) λH5 kp hE5=>?_;exact fin (Pl hin) e1 a H4 H5 ha4 e4 hE5 kp
 |none=>
   obtain⟨ns',ps',R,hd,hW',hal⟩:=hA rfl (by omega);obtain rfl:u = .non:=by simpa only[flD,Is] using hu1
   obtain⟨rv,hrv,hIr⟩:=IsL.at (IsL.mono e1 _ _ hX) hd;obtain⟨ta,zs,rfl,hSr,hLr⟩:=Is.tup hIr;obtain⟨y0,hy0,hI0⟩:=IsL.at hLr (show [hfD ns' ps',R,PyData.int 1][0]? = some (hfD ns' ps') from rfl);obtain⟨y2,hy2,hI2⟩:=IsL.at hLr (show [hfD ns' ps',R,PyData.int 1][2]? = some (.int 1) from rfl);simp only[Is] at hI2;subst hI2;have hlast:=a47 (ys:=xs) (v:=.ref ta) (by rw[<- hxl];exact hrv)
   symm
   refine Bu (e1.seqT hS) hlast ?_
   symm
   refine Bu hSr (show atI zs ((0:Nat):Int)=_ from B0 hy0) ?_
   symm
   refine⟨y0,hv,ns',ps',ns,ps,rfl,hI0,hW',Is.mono e1 _ _ hI,hW,λb H2 hb e2=>?_⟩;have e12:=e1.trans e2
   obtain rfl:b=al:=by rw[A1J,hb,hal]
   cases b with
   |false=>
     symm
     refine Mb (Is.mono e12 _ _ hD) ?_
     symm
     refine Wm (by rfl) nofun λa H4 ha4 e4 hE=>?_
     symm
     refine Lv hE x_NoPaper.xc (e12.free ha4) λH5 kp hE5=>?_;exact fin (Pd hin) e12 a H4 H5 ha4 e4 hE5 kp
   |true=>
     symm
     refine Bu (e12.seqT hS) hlast ?_
     symm
     refine Bu (e2.seqT hSr) (show atI zs ((2:Nat):Int)=_ from B0 hy2) ?_
     symm
     exact kq (Oe hin) H2 e12
local macro_rules | `(tactic| walk_at "rq1") => L2.mAlts "i_nxS"
theorem af0 {K:W.Frag}{C B:Addr}(hm:Gv K C B=true):W.mroIn K C (.ref B)=some true:=by obtain⟨cd,hc,hx⟩:=W.any_some hm;unfold W.mroIn;rw[hc,A3I,A1Z.mp hx,A0L ∅,A1Q,A1Q,A3H,Bool.true_or,A3R]
theorem Le {K:W.Frag}{C D B:Addr}(c:XC K C)(hm:Gv K C B=true)(d:XC K D)(h1:C≠D)(h2:D≠B):W.kitOne K (.ref C) (.ref D)=some false:=by rw[Uf c hm d,A0S.mpr h1,A0S.mpr h2];rfl
theorem a40 {K:W.Frag}{C B:Addr}(c:XC K C)(hm:Gv K C B=true):W.kitOne K (.ref C) (.ref C)=some true:=by rw[Uf c hm c,A3H,Bool.true_or]
theorem ae4 {H:Hp}{a C:Addr}{f:Str×V}{fs:List (Str×V)}(h:ExB false H a C (f :: fs)):∃ dx,H a=some (exG false a C (some dx)):=by
 rcases h with ⟨e,_⟩|⟨dx,_,h1,_⟩
 . cases e
 exact⟨dx,h1⟩
theorem a52 {K:W.Frag}{H:Hp}{Q:VK}{a:Addr}(h:SqL K H a ([false,false,false,false].map V.bl))(k:Q (.bl true) H):Va K true (.bl true) (.ref a) H Q:=aa0 h k
theorem len5 {σ:L2.St}(h:σ.length=5):∃ a b c d e,σ=[a,b,c,d,e]:=by
 match σ,h with
 | [a,b,c,d,e],_=>exact⟨a,b,c,d,e,rfl⟩
def tlD:Option (Str×Int)->PyData
 |none=>.int 1
 |some (w,j)=>.tuple [.str w,.int j]
def Et (K:W.Frag):Sp:=λvs H Q _=>∃ hv v ns ps ds o al,vs=[hv,v]/\Is K H (hfD ns ps) hv/\HalfW ns ps/\Is K H (.tuple ds) v/\ds.length<=2000/\Fl ds o/\(o=none->0<ds.length->ad3 ds ns ps al)/\∀ u H',Same H H'->Is K H' (tlD (tlW ds.length o al)) u->Q u H'
theorem Ml {f:Addr}{fd:FuncData}(F:Fun K "_law_told" "_law_told" Ft f fd)(T:Fj mg){C_HalfError:Addr}{C_NoHalf:Addr}{C_NoName:Addr}{C_NoPaper:Addr}{C_NoPlan:Addr}{C_NoBound:Addr}(x_HalfError:Cp K mg C_HalfError C_HalfError)(x_NoHalf:Kj K mg C_NoHalf C_HalfError)(x_NoName:Hb K mg C_NoName C_HalfError)(x_NoPaper:Ds K mg C_NoPaper C_HalfError)(x_NoPlan:Km K mg C_NoPlan C_HalfError)(x_NoBound:Jb K mg C_NoBound C_HalfError)(ndX:([C_HalfError,C_NoBound,C_NoHalf,C_NoName,C_NoPaper,C_NoPlan]:List Addr).Nodup)(Ef:ak3 P w K mg base 8 "lets_count" ["half","paper"] (Di C_NoPaper K)):FnOk P w K mg base CX0 9 f fd ["_law_half","_law_paper"] (Et K):=by
 refine F.ok Bg (λvs H Q E h=>?_) (λcdv A outer s H vs Q E hr h=>?_)
 . obtain⟨hv,v,ns,ps,ds,o,al,rfl,_⟩:=h;rfl
 obtain⟨hv,v,ns,ps,ds,o,al,rfl,hI,hW,hD,hlen,hF,hA,k⟩:=h;have hu:=C4 hr;have hq:=C3 hr;have m1:C_NoPaper≠C_NoHalf:=λe=>by subst e;simp at ndX
 have m2:C_NoPaper≠C_NoPlan:=λe=>by subst e;simp at ndX
 have m3:C_NoPaper≠C_NoBound:=λe=>by subst e;simp at ndX
 have m4:C_NoPaper≠C_NoName:=λe=>by subst e;simp at ndX
 have b1:C_NoHalf≠C_HalfError:=λe=>by subst e;simp at ndX
 have b2:C_NoPlan≠C_HalfError:=λe=>by subst e;simp at ndX
 have b3:C_NoBound≠C_HalfError:=λe=>by subst e;simp at ndX
 have b4:C_NoName≠C_HalfError:=λe=>by subst e;simp at ndX
 clear ndX;obtain⟨xG,hG⟩:∃ G:Addr->Hp->Prop,G=λa H'=>∃ w j,tlW ds.length o al=some (w,j)/\Same H H'/\ExB false H' a C_NoPaper [("word",.str w),("row",.int j)]:=⟨_,rfl⟩
 with_reducible refine⟨_,(A2 (Ao (i:=2) Bg.nd ⋯ (by eq_refl) Cs)
  (A2 (ae3 (i:=3) xG Bg.nd ⋯ ⋯ ⋯ x_HalfError.gl x_HalfError.xc ⋯ ⋯ ⋯ (λ_ _ hps=>(A4 (Ao (i:=2) Bg.nd ⋯ (by eq_refl) (a80 Ef (hr.mono nofun) ⋯ hps (A0 (pv 0) (A0 (pv 1) A1))))))
  (λ_ _=>(A2 (Ao (i:=4) Bg.nd ⋯ (by eq_refl) (Co (A0 (A8 (Dj (K:=K)) ⋯ T.b_isinstance PyProof.Rows.Boot.«isinstance» (A0 (pv 3) (A0 (Hl (v:=.ref C_NoHalf) ⋯ ⟨_,x_NoHalf.gl,⋯⟩) A1))) (A0 (A8 (Dj (K:=K)) ⋯ T.b_isinstance PyProof.Rows.Boot.«isinstance» (A0 (pv 3) (A0 (Hl (v:=.ref C_NoPlan) ⋯ ⟨_,x_NoPlan.gl,⋯⟩) A1))) (A0 (A8 (Dj (K:=K)) ⋯ T.b_isinstance PyProof.Rows.Boot.«isinstance» (A0 (pv 3) (A0 (Hl (v:=.ref C_NoBound) ⋯ ⟨_,x_NoBound.gl,⋯⟩) A1))) (A0 (A8 (Dj (K:=K)) ⋯ T.b_isinstance PyProof.Rows.Boot.«isinstance» (A0 (pv 3) (A0 (Hl (v:=.ref C_NoName) ⋯ ⟨_,x_NoName.gl,⋯⟩) A1))) A1))))))
  (A2 (Ao (i:=2) Bg.nd ⋯ (by eq_refl) (Ae (A0 A7 (A0 A3 A1))))
  (A4 (Ax (PW.pt (My (Bt (A8 (Dj (K:=K)) ⋯ T.b_isinstance PyProof.Rows.Boot.«isinstance» (A0 (pv 3) (A0 (Hl (v:=.ref C_NoPaper) ⋯ ⟨_,x_NoPaper.gl,⋯⟩) A1)))) (My (Bt (A8 (Dj (K:=K)) ⋯ T.b_isinstance PyProof.Rows.Boot.«isinstance» (A0 (pv 3) (A0 (Bq (v:=.ty "ValueError") ⋯ T.b_ValueError PyProof.Rows.Boot.«ValueError» ⋯) A1)))) (Oq (Af (Uq (K:=K) (a62 hq)) Fi (pv 4) ⋯))))) (A4 (Ao (i:=2) Bg.nd ⋯ (by eq_refl) (Ae (A0 (Q8 (K:=K) (pv 3) ⋯) (A0 (Q8 (K:=K) (pv 3) ⋯) A1))))) Ac))))))
  (A4 (Ab (pv 2))))),?_⟩
 symm
 refine⟨?_,λa H' σ' hl hg=>?_⟩
 . symm
   refine⟨hv,v,ns,ps,ds,o,al,rfl,hI,hW,hD,hlen,hF,hA,λhw H1 e1=>?_,λw j a H1 hw e1 hE=>⟨a,rfl,by rw[hG];exact⟨w,j,hw,e1,hE⟩⟩⟩
   symm
   exact k _ H1 e1 (by rw[hw];simp only[tlD,Is])
 rw[hG] at hg;obtain⟨w,j,hw,e1,hE⟩:=hg;obtain⟨y0,y1,y2,y3,y4,rfl⟩:=len5 hl;obtain⟨dx,ha⟩:=ae4 hE;refine⟨⟨C_NoPaper,some dx,ha,x_NoPaper.xc,af0 x_NoPaper.mr⟩,?_⟩
 symm
 refine Uw hE x_NoPaper.xc (Le x_NoPaper.xc x_NoPaper.mr x_NoHalf.xc m1 b1) ?_
 symm
 refine Uw hE x_NoPaper.xc (Le x_NoPaper.xc x_NoPaper.mr x_NoPlan.xc m2 b2) ?_
 symm
 refine Uw hE x_NoPaper.xc (Le x_NoPaper.xc x_NoPaper.mr x_NoBound.xc m3 b3) ?_
 symm
 refine Uw hE x_NoPaper.xc (Le x_NoPaper.xc x_NoPaper.mr x_NoName.xc m4 b4) ?_
 symm
 refine Ck (A5 ∅) λt H1 ht1 e2 h1=>?_;have hE1:=hE.same e2;have h1:H1 t=some (.lst ([false,false,false,false].map V.bl)):=h1
 symm
 refine Ad (A5 ∅) λt2 H2 ht2 e3 h2=>?_;have hE2:=hE1.same e3
 symm
 refine Uw hE2 x_NoPaper.xc (a40 x_NoPaper.xc x_NoPaper.mr) ?_
 symm
 refine ag0 hE2 x_NoPaper.xc (a08 x_NoPaper.mr) ?_
 symm
 refine a52 (SqL.of (e3 _ _ h1)) ?_
 symm
 refine Yg hE2 x_NoPaper.xc x_NoPaper.n_word (show _=some (V.str w) from rfl) ?_
 symm
 refine Yg hE2 x_NoPaper.xc x_NoPaper.n_row (show _=some (V.int j) from rfl) ?_
 symm
 refine Ad (A5 ∅) λt3 H3 ht3 e4 h3=>?_
 symm
 exact k _ H3 (((e1.trans e2).trans e3).trans e4) (by rw[hw];exact Is.of_tup (SqT.of h3) (.cons (by simp only[Is]) (.one (by simp only[Is]))))
theorem Tq {k:Nat}:∀ {ds:List PyData},(∀ e∈ds,e.weight<=k)->PyData.weightAll ds<=ds.length*(k+1)
 | [],_=>by simp only[PyData.weightAll];omega
 |d :: ds,h=>by have h1:=h d ∅;have h2:=Tq (ds:=ds) λe he=>h e (by simp[he]);simp only[PyData.weightAll,List.length_cons,Nat.succ_mul];omega
theorem aa8 {z:Str}(h:M6 z=true):Asc z:=λc hc=>by unfold M6 at h;rw[A0Z,A0W] at h;have:=h.2 c hc;unfold Fu at this;rw[A0Z,A2D,A2D] at this;omega
theorem Sw {p W:Nat}{ns:List Str}(h:∀ z∈ns,M6 z=true)(hl:ns.length<=W):Els p (ns.length*9) W (ns.map PyData.str):=by
 refine⟨λe he=>?_,?_,by simpa using hl⟩
 . obtain⟨z,hz,rfl⟩:=A09.mp he;exact⟨8,ac8 (aa8 (h z hz)) (Y1 (h z hz))⟩
 have:=Tq (k:=8) (ds:=ns.map PyData.str) λe he=>by obtain⟨z,hz,rfl⟩:=A09.mp he;simp only[PyData.weight];exact Y1 (h z hz)
 simpa using this
theorem ad8 {p W:Nat}{q:Str×Str}(h1:M6 q.1=true)(h2:M6 q.2=true)(hW:2<=W):Dk (p+1) 18 W (prD q):=by
 have:=Sw (p:=p) (W:=W) (ns:=[q.1,q.2]) (λz hz=>by
  simp only[List.mem_cons,List.not_mem_nil,or_false] at hz;rcases hz with rfl|rfl
  . exact h1
  exact h2) hW
 exact Pb this
theorem Zk {p W:Nat}{ps:List (Str×Str)}(h:NmP ps)(hl:ps.length<=W)(hW:2<=W):Els (p+1) (ps.length*19) W (ps.map prD):=by
 refine⟨λe he=>?_,?_,by simpa using hl⟩
 . obtain⟨q,hq,rfl⟩:=A09.mp he;exact⟨18,ad8 (h q hq).1 (h q hq).2 hW⟩
 have:=Tq (k:=18) (ds:=ps.map prD) λe he=>by obtain⟨q,hq,rfl⟩:=A09.mp he;exact(ad8 (p:=0) (h q hq).1 (h q hq).2 hW).wt
 simpa using this
theorem Zq {ns:List Str}{ps:List (Str×Str)}(h:NmP ps)(h1:∀ z∈ns,M6 z=true)(h2:ns.length<=20)(h3:ps.length<=70):Dk 3 1600 70 (hfD ns ps):=by
 have a:=Pb (Sw (p:=1) (W:=70) h1 (by omega));have b:=Pb (Zk (p:=0) (W:=70) h (by omega) (by omega));refine Pb (p:=2) ⟨λe he=>?_,?_,by simp⟩
 . simp only[List.mem_cons,List.not_mem_nil,or_false] at he;rcases he with rfl|rfl
   . exact⟨_,a⟩
   exact⟨_,b⟩
 have:=a.wt;have:=b.wt;simp only[PyData.weightAll];simp only[nmD,psD] at *;omega
theorem ar1 {x y:Str}:¬ Way [] x y:=λw=>by cases w<;>contradiction
theorem ab6 (ns:List Str):2*(unP ns []).length=ns.length*(ns.length-1):=by
 have no:∀ x y,Av [] x y=false:=λx y=>by
  cases h:Av [] x y with
  |false=>rfl
  |true=>exact absurd (wayB_iff.mp h) ar1
 have h1:=Zv (ps:=[]) (λx=>no x x) (λx y h=>by rw[no] at h;cases h) ns
 have h2:(ns.map λx=>(ns.filter λy=>Av [] x y).length).sum=0:=by
  rw[show(ns.map λx=>(ns.filter λy=>Av [] x y).length)=ns.map λ_=>0 from List.map_congr_left λx _=>by rw[List.filter_eq_nil_iff.mpr λy _=>by rw[no];simp];rfl];have go:∀ l:List Str,(l.map λ_=>0).sum=0:=λl=>by induction l<;>simp_all
  exact go ns
 omega
theorem Wf:∀ c<123,97<=c->Qu c=true:=by decide +kernel
theorem Ui {z:Str}(h:M6 z=true):Db z=true:=by unfold M6 at h;unfold Db;rw[A0Z] at h ⊢;refine⟨h.1,?_⟩;rw[A0W];intro c hc;have:=A0W.mp h.2 c hc;unfold Fu at this;simp only[Bool.and_eq_true,decide_eq_true_eq] at this;exact Wf c (by omega) (by omega)
theorem hw0 {ns:List Str}(h:ns.Nodup)(hl:ns.length<=10):HalfW ns []:=⟨h,λp hp=>(by cases hp),λx=>ar1,by omega,by simp⟩
theorem ta0 {ns:List Str}(h:Names ns)(hl:ns.length<=10):TaD (hfD ns []):=⟨ns,[],rfl,⟨λz hz=>Ui (h.2 z hz),h.1,hl⟩,by simp,λe he=>by cases he⟩
theorem dk0 {ns:List Str}(h:Names ns)(hl:ns.length<=20):DkH (hfD ns []):=⟨_,_,_,Zq (λp hp=>by cases hp) h.2 hl ∅,by omega,by omega,by omega⟩
def Kd (ns:List Str):PyData:=.tuple [hfD ns [],.tuple [.str "row"],.int 1]
def Am (K:W.Frag)(m:Nat)(H:Hp)(x:V):Prop:=∃ t bad w D,x = .ref t/\SqT K H t [bad,.str w]/\Is K H D bad/\Rw D m (some w)
theorem Am.same {K:W.Frag}{m:Nat}{H H':Hp}{x:V}(e:Same H H')(h:Am K m H x):Am K m H' x:=by obtain⟨t,bad,w,D,rfl,h1,h2,h3⟩:=h;exact⟨t,bad,w,D,rfl,e.seqT h1,Is.mono e _ _ h2,h3⟩
theorem I0 {K:W.Frag}{m:Nat}{H:Hp}{t:Addr}{bad:V}{w:Str}{D:PyData}(h:H t=some (.tup [bad,.str w]))(hI:Is K H D bad)(r:Rw D m (some w)):Am K m H (.ref t):=⟨t,bad,w,D,rfl,SqT.of h,hI,r⟩
theorem Rj {K:W.Frag}{H:Hp}{t:Addr}{x y z:V}{X Y Z:PyData}(h:H t=some (.tup [x,y,z]))(hx:Is K H X x)(hy:Is K H Y y)(hz:Is K H Z z):Is K H (.tuple [X,Y,Z]) (.ref t):=Is.of_tup (SqT.of h) (.cons hx (.cons hy (.one hz)))
theorem Mx {K:W.Frag}{H:Hp}{t:Addr}{x y:V}{X Y:PyData}(h:H t=some (.tup [x,y]))(hx:Is K H X x)(hy:Is K H Y y):Is K H (.tuple [X,Y]) (.ref t):=Is.of_tup (SqT.of h) (.cons hx (.one hy))
theorem Iv {K:W.Frag}{H:Hp}{n:Int}:Is K H (.int n) (.int n):=by simp only[Is]
theorem K8 {K:W.Frag}{H:Hp}{z:Str}:Is K H (.str z) (.str z):=by simp only[Is]
theorem ak8 {K:W.Frag}{H:Hp}{t:Addr}{x:V}{X:PyData}(h:H t=some (.tup [x]))(hx:Is K H X x):Is K H (.tuple [X]) (.ref t):=Is.of_tup (SqT.of h) (.one hx)
theorem Y9 {K:W.Frag}{H:Hp}{t:Addr}(h:H t=some (.tup [])):Is K H (.tuple []) (.ref t):=Is.of_tup (SqT.of h) (by simp only[L2.IsL])
theorem Yv {K:W.Frag}{H:Hp}{t:Addr}{x:V}{X:PyData}(hx:Is K H X x){n:Nat}(h:SqT K H t (List.replicate n [x]).flatten):Is K H (.tuple (List.replicate n X)) (.ref t):=by
 refine Is.of_tup h ?_;clear h
 induction n with
 |zero=>simp only[List.replicate,List.flatten,L2.IsL]
 |succ n ih=>exact .cons hx ih
theorem dkc {D:PyData}(h:(Zj D&&D.canLay0&&D.showable&&D.leavesShort 45&&decide (D.depth<=60)&&decide (D.weight<=1000000)&&decide (a74 D<=1000))=true):DkH D:=by simp only[Bool.and_eq_true,decide_eq_true_eq] at h;obtain⟨⟨⟨⟨⟨⟨a,b⟩,c⟩,d⟩,e⟩,f⟩,g⟩:=h;exact⟨60,1000000,1000,⟨a,b,c,d,e,f,g⟩,by omega,by omega,by omega⟩
def abD:PyData:=.tuple [.str "a",.str "b"]
def elN:List Str:=["a","b","c","d","e","f","g","h","i","j","k"]
def rwD:PyData:=.tuple [.str "row"]
theorem ao1 {K:W.Frag}{H:Hp}{t:Addr}(h:SqT K H t (elN.map V.str)):Is K H (nmD elN) (.ref t):=Is.of_tup h (Rx elN)
theorem ap1 {ns:List Str}(h:ns.length<=1):unP ns []=[]:=by have:=ab6 ns;rw[<- A0Y];rcases(by omega:ns.length=0\/ns.length=1) with e|e<;>rw[e] at this<;>omega
section
variable {ns:List Str}{m:Nat}(hN:Names ns)(h1:ns.length<=1)
include hN h1
theorem Tp {R:PyData}{n:Int}{b:Bool}{is:List Int}{o:Option Str}(hn:0<=n)(hR:Ru R b is)(hb:is≠[]->∃ j∈is,j<0\/(m:Int)<=j)(ho:wdO b is [] n=o):Rw (.tuple [hfD ns [],R,.int n]) m o:=by have:=Rw.ok (k:=m) hn (dk0 hN (by omega)) (ta0 hN (by omega)) (hw0 hN.1 (by omega)) hR hb;rw[ap1 h1,ho] at this;exact this
theorem Yw {n:Int}(h0:0<=n)(hn:n≠1):Rw (.tuple [hfD ns [],rwD,.int n]) m (some "number"):=Tp hN h1 h0 .row (λh=>absurd rfl h) (by unfold wdO;rw[if_neg nofun,if_neg ∅,if_neg ∅,if_pos hn])
theorem Q3:Rw (Kd ns) m none:=Tp hN h1 nofun .row (λh=>absurd rfl h) (by rfl)
theorem Se:Rw (.tuple [hfD ns [],.tuple [.str "turned",.int (m:Int)],.int 1]) m (some "ref"):=Tp hN h1 nofun (.turned _) (λ_=>⟨_,A12.mpr rfl,.inr (Int.le_refl _)⟩) (by rfl)
theorem Vw:Rw (.tuple [hfD ns [],.tuple [.str "above",.int (-1),.int (-1)],.int 1]) m (some "ref"):=Tp hN h1 nofun (.above _ _) (λ_=>⟨-1,by simp,.inl nofun⟩) (by rfl)
theorem Zi:Rw (.tuple [hfD ns [],.tuple [.str "last",.tuple [.str "0"]],.int 1]) m (some "row"):=Tp hN h1 nofun .last (λh=>absurd rfl h) (by rfl)
end
theorem aq0 {R:PyData}{m:Nat}:Rw (.tuple [abD,R,.int 1]) m (some "row"):=.tale (dkc (by decide +kernel)) λ⟨ns,es,h,_⟩=>by cases h
theorem ah3 {m:Nat}:Rw (.tuple [.tuple [abD,.tuple []],rwD,.int 1]) m (some "half"):=by
 have hN:Names ["a","b"]:=⟨by decide +kernel,by decide +kernel⟩;have:=Rw.ok (k:=m) (ns:=["a","b"]) (ps:=[]) (n:=1) nofun (dk0 hN nofun) (ta0 hN nofun) (hw0 hN.1 nofun) .row (λh=>absurd rfl h)
 have hu:unP ["a","b"] []≠[]:=λh=>by have:=ab6 ["a","b"];rw[h] at this;simp at this
 rw[show wdO true [] (unP ["a","b"] []) 1=some ("half":Str) by unfold wdO;rw[if_neg nofun,if_neg ∅,if_pos hu]] at this;exact this
theorem nm_inj {as bs:List Str}(h:nmD as=nmD bs):as=bs:=Lq h
theorem am7 {R:PyData}{m:Nat}:Rw (.tuple [.tuple [nmD elN,.tuple []],R,.int 1]) m (some "row"):=.tale (dkc (by decide +kernel)) λ⟨ns,es,h,hn,_⟩=>by
 have e:nmD elN=nmD ns/\PyData.tuple [] = .tuple es:=by simpa using h
 have h2:=hn.2.2;rw[<- Lq e.1] at h2;exact absurd h2 nofun
theorem an4 {R:PyData}{m:Nat}:Rw (.tuple [.tuple [abD,.tuple (List.replicate 61 abD)],R,.int 1]) m (some "row"):=.tale (dkc (by decide +kernel)) λ⟨ns,es,h,hn,hl,_⟩=>by
 have e:abD=nmD ns/\List.replicate 61 abD=es:=by simpa using h
 rw[<- e.2,A1B] at hl;omega
def AmL (K:W.Frag)(m:Nat)(H:Hp)(xs:List V):Prop:=∀ x∈xs,Am K m H x
theorem AmL.same {K:W.Frag}{m:Nat}{H H':Hp}{xs:List V}(h:AmL K m H xs)(e:Same H H'):AmL K m H' xs:=λx hx=>(h x hx).same e
theorem AmL.snoc {K:W.Frag}{m:Nat}{H:Hp}{xs:List V}{x:V}(h:AmL K m H xs)(a:Am K m H x):AmL K m H (xs++[x]):=λy hy=>(A08.mp hy).elim (h y) λg=>by rw[A12.mp g];exact a
def Do (K:W.Frag):Sp:=λvs H Q _=>∃ d l row ns m,vs=[.ref d,row,.int ((m:Nat):Int)]/\Feed H d l/\Is K H (Kd ns) row/\Names ns/\ns.length<=1/\∀ x H',ExtBut d H H'->Feed H' d l->Am K m H' x->Q x H'
theorem Lm {f:Addr}{fd:FuncData}(F:Fun K "_law_amiss" "_law_amiss" Eo f fd)(T:Fj mg)(Aj:Fnd P w K mg base 1 "_law_draw" ["_law_feed_here","_law_many"] (C1 K)):FnOk P w K mg base CX0 2 f fd ["_law_feed_here","_law_row","_law_many"] (Do K):=by
 refine F.ok B1 (λvs H Q E h=>?_) (λcdv A outer s H vs Q E hr h=>?_)
 . obtain⟨d,l,row,ns,m,rfl,_⟩:=h;rfl
 obtain⟨d,l,row,ns,m,rfl,hF,hI,hN,h1,k⟩:=h;have hu:=C4 hr;have hq:=C3 hr;obtain ⟨ra,rs,rfl,hS,hL⟩:=Is.tup hI
 obtain⟨y0,y1,y2,rfl,hI0,hI1,hI2⟩:∃ y0 y1 y2,rs=[y0,y1,y2]/\Is K H (hfD ns []) y0/\Is K H (.tuple [.str "row"]) y1/\Is K H (.int 1) y2:=by
  have hl:=IsL.length hL
  match rs,hl,hL with
  | [a,b,c],_,hL=>
    simp only[L2.IsL] at hL;obtain⟨_,_,e0,i0,_,_,e1,i1,_,_,e2,i2,_⟩:=hL
    cases e0
    cases e1
    cases e2;exact⟨a,b,c,rfl,i0,i1,i2⟩
 with_reducible refine⟨_,(A2 (Y6 (Cd (V8 (K:=K)) (pv 1) Fh (C8 A3)) (Gj (K:=K) (n:=2) ⋯ (Bw (Aq (i:=3) B1.nd ⋯ (by eq_refl)) (Bw (Aq (i:=4) B1.nd ⋯ (by eq_refl)) Go))))
  (A2 (Ao (i:=5) B1.nd ⋯ (by eq_refl) (Co (A0 (Ae (A0 (Ae (A0 (pv 3) (A0 (pv 4) (A0 A3 A1)))) (A0 A7 A1))) (A0 (Ae (A0 (Ae (A0 (pv 3) (A0 (pv 4) (A0 (Aw Yu A3 A3) A1)))) (A0 A7 A1))) (A0 (Ae (A0 (Ae (A0 (pv 3) (A0 (pv 4) (A0 (Nc Hs A3) A1)))) (A0 A7 A1))) A1)))))
  (A2 (Ao (i:=5) B1.nd ⋯ (by eq_refl) (Aw (B2 (K:=K)) (pv 5) (Co (A0 (Ae (A0 (Ae (A0 (pv 3) (A0 (pv 4) (A0 Fi A1)))) (A0 A7 A1))) (A0 (Ae (A0 (Ae (A0 (pv 3) (A0 (Ae (A0 A7 (A0 (pv 2) A1))) (A0 A3 A1)))) (A0 A7 A1))) (A0 (Ae (A0 (Co (A0 (pv 3) (A0 (pv 4) (A0 A3 A1)))) (A0 A7 A1))) A1))))))
  (A2 (Ao (i:=5) B1.nd ⋯ (by eq_refl) (Aw (B2 (K:=K)) (pv 5) (Co (A0 (Ae (A0 (Ae (A0 (pv 3) (A0 (Ae (A0 A7 (A0 (Nc Hs A3) (A0 (Nc Hs A3) A1)))) (A0 A3 A1)))) (A0 A7 A1))) (A0 (Ae (A0 (Ae (A0 (Ae (A0 A7 (A0 A7 A1))) (A0 (pv 4) (A0 A3 A1)))) (A0 A7 A1))) A1)))))
  (A2 (Ao (i:=5) B1.nd ⋯ (by eq_refl) (Aw (B2 (K:=K)) (pv 5) (Co (A0 (Ae (A0 (Ae (A0 (Ae (A0 (Ae (A0 A7 (A0 A7 A1))) (A0 (Ae A1) A1))) (A0 (pv 4) (A0 A3 A1)))) (A0 A7 A1))) (A0 (Ae (A0 (Ae (A0 (pv 3) (A0 (Ae (A0 A7 (A0 (Ae (A0 A7 A1)) A1))) (A0 A3 A1)))) (A0 A7 A1))) A1)))))
  (A2 (Ao (i:=6) B1.nd ⋯ (by eq_refl) (Ae (A0 A7 (A0 A7 (A0 A7 (A0 A7 (A0 A7 (A0 A7 (A0 A7 (A0 A7 (A0 A7 (A0 A7 (A0 A7 A1)))))))))))))
  (A2 (Ao (i:=5) B1.nd ⋯ (by eq_refl) (Aw (B2 (K:=K)) (pv 5) (Co (A0 (Ae (A0 (Ae (A0 (Ae (A0 (pv 6) (A0 (Ae A1) A1))) (A0 (pv 4) (A0 A3 A1)))) (A0 A7 A1))) (A0 (Ae (A0 (Ae (A0 (Ae (A0 (Cd (V8 (K:=K)) (pv 6) Fh (C8 A3)) (A0 (Aw (Q6 (K:=K)) (Ae (A0 (Ae (A0 A7 (A0 A7 A1))) A1)) A3) A1))) (A0 (pv 4) (A0 A3 A1)))) (A0 A7 A1))) A1)))))
  (A4 (Ab (Ah (A6 (K:=K) hu) (pv 5) (As Aj (hr.mono nofun) ⋯ (A0 (pv 0) (A0 A3 A1))) (by ac_rfl))))))))))),?_⟩
 symm
 refine Qr hS λq2 H2 e2 h2=>?_
 symm
 have h2:SqT K H2 q2 [y0,y1]:=h2;refine⟨q2,_,rfl,h2,rfl,y0,[y1],rfl,y1,[],rfl,rfl,?_⟩
 symm
 have s2:=e2;have al2:AmL K m H2 []:=λx hx=>by cases hx
 refine Ad (A5 ∅) λt3 H3 ht3 e3 h3=>?_;have s3:=s2.trans e3;have al3:=al2.same e3
 symm
 refine Ad (A5 ∅) λt4 H4 ht4 e4 h4=>?_;have s4:=s3.trans e4;have al4:=al3.same e4
 symm
 have al4:=al4.snoc (I0 h4 (Rj (e4 _ _ h3) (Is.mono s4 _ _ hI0) (Is.mono s4 _ _ hI1) Iv) (Yw hN h1 nofun nofun));refine Ad (A5 ∅) λt5 H5 ht5 e5 h5=>?_;have s5:=s4.trans e5;have al5:=al4.same e5
 symm
 refine Ad (A5 ∅) λt6 H6 ht6 e6 h6=>?_;have s6:=s5.trans e6;have al6:=al5.same e6
 symm
 have al6:=al6.snoc (I0 h6 (Rj (e6 _ _ h5) (Is.mono s6 _ _ hI0) (Is.mono s6 _ _ hI1) Iv) (Yw hN h1 nofun nofun));refine Ad (A5 ∅) λt7 H7 ht7 e7 h7=>?_;have s7:=s6.trans e7;have al7:=al6.same e7
 symm
 refine Ad (A5 ∅) λt8 H8 ht8 e8 h8=>?_;have s8:=s7.trans e8;have al8:=al7.same e8
 symm
 have al8:=al8.snoc (I0 h8 (Rj (e8 _ _ h7) (Is.mono s8 _ _ hI0) (Is.mono s8 _ _ hI1) Iv) (.bad (by rfl)));refine Ck (A5 ∅) λt9 H9 ht9 e9 h9=>?_;have s9:=s8.trans e9;have al9:=al8.same e9
 symm
 refine Ad (A5 ∅) λt10 H10 ht10 e10 h10=>?_;have s10:=s9.trans e10;have al10:=al9.same e10
 symm
 refine Ad (A5 ∅) λt11 H11 ht11 e11 h11=>?_;have s11:=s10.trans e11;have al11:=al10.same e11
 symm
 have al11:=al11.snoc (I0 h11 (Rj (e11 _ _ h10) (Is.mono s11 _ _ hI0) (Is.mono s11 _ _ hI1) (by simp only[Is])) (.bad (D:=.tuple [hfD ns [],rwD,.bool true]) (by rfl)));refine Ad (A5 ∅) λt12 H12 ht12 e12 h12=>?_;have s12:=s11.trans e12;have al12:=al11.same e12
 symm
 refine Ad (A5 ∅) λt13 H13 ht13 e13 h13=>?_;have s13:=s12.trans e13;have al13:=al12.same e13
 symm
 refine Ad (A5 ∅) λt14 H14 ht14 e14 h14=>?_;have s14:=s13.trans e14;have al14:=al13.same e14
 symm
 have al14:=al14.snoc (I0 h14 (Rj (e14 _ _ h13) (Is.mono s14 _ _ hI0) (Mx (e14 _ _ (e13 _ _ h12)) K8 Iv) Iv) (Se hN h1));refine Ck (A5 ∅) λt15 H15 ht15 e15 h15=>?_;have s15:=s14.trans e15;have al15:=al14.same e15
 symm
 refine Ad (A5 ∅) λt16 H16 ht16 e16 h16=>?_;have s16:=s15.trans e16;have al16:=al15.same e16
 symm
 have al16:=al16.snoc (I0 h16 (Is.of_lst (SqL.of (e16 _ _ h15)) (.cons (Is.mono s16 _ _ hI0) (.cons (Is.mono s16 _ _ hI1) (.one Iv)))) (.bad (D:=.list [hfD ns [],rwD,.int 1]) (by rfl)));refine Ck (A5 ∅) λt17 H17 ht17 e17 h17=>?_;have s17:=s16.trans e17;have al17:=al16.same e17
 symm
 refine M5 (e17 _ _ (e16 _ _ (e15 _ _ (e14 _ _ (e13 _ _ (e12 _ _ (e11 _ _ (e10 _ _ (h9))))))))) h17 (by simp[sizeLine_eq]) λt18 H18 ht18 e18 h18=>?_;have s18:=s17.trans e18;have al18:=al17.same e18
 symm
 refine Ad (A5 ∅) λt19 H19 ht19 e19 h19=>?_;have s19:=s18.trans e19;have al19:=al18.same e19
 symm
 refine Ad (A5 ∅) λt20 H20 ht20 e20 h20=>?_;have s20:=s19.trans e20;have al20:=al19.same e20
 symm
 refine Ad (A5 ∅) λt21 H21 ht21 e21 h21=>?_;have s21:=s20.trans e21;have al21:=al20.same e21
 symm
 have al21:=al21.snoc (I0 h21 (Rj (e21 _ _ (h20)) (Is.mono s21 _ _ hI0) (Rj (e21 _ _ (e20 _ _ (h19))) K8 Iv Iv) Iv) (Vw hN h1));refine Ad (A5 ∅) λt22 H22 ht22 e22 h22=>?_;have s22:=s21.trans e22;have al22:=al21.same e22
 symm
 refine Ad (A5 ∅) λt23 H23 ht23 e23 h23=>?_;have s23:=s22.trans e23;have al23:=al22.same e23
 symm
 refine Ad (A5 ∅) λt24 H24 ht24 e24 h24=>?_;have s24:=s23.trans e24;have al24:=al23.same e24
 symm
 have al24:=al24.snoc (I0 h24 (Rj (e24 _ _ (h23)) (Mx (e24 _ _ (e23 _ _ (h22))) K8 K8) (Is.mono s24 _ _ hI1) Iv) aq0);refine Ck (A5 ∅) λt25 H25 ht25 e25 h25=>?_;have s25:=s24.trans e25;have al25:=al24.same e25
 symm
 refine M5 (e25 _ _ (e24 _ _ (e23 _ _ (e22 _ _ (e21 _ _ (e20 _ _ (e19 _ _ (h18)))))))) h25 (by simp[sizeLine_eq]) λt26 H26 ht26 e26 h26=>?_;have s26:=s25.trans e26;have al26:=al25.same e26
 symm
 refine Ad (A5 ∅) λt27 H27 ht27 e27 h27=>?_;have s27:=s26.trans e27;have al27:=al26.same e27
 symm
 refine Ad (A5 ∅) λt28 H28 ht28 e28 h28=>?_;have s28:=s27.trans e28;have al28:=al27.same e28
 symm
 refine Ad (A5 ∅) λt29 H29 ht29 e29 h29=>?_;have s29:=s28.trans e29;have al29:=al28.same e29
 symm
 refine Ad (A5 ∅) λt30 H30 ht30 e30 h30=>?_;have s30:=s29.trans e30;have al30:=al29.same e30
 symm
 refine Ad (A5 ∅) λt31 H31 ht31 e31 h31=>?_;have s31:=s30.trans e31;have al31:=al30.same e31
 symm
 have al31:=al31.snoc (I0 h31 (Rj (e31 _ _ (h30)) (Mx (e31 _ _ (e30 _ _ (h29))) (Mx (e31 _ _ (e30 _ _ (e29 _ _ (e28 _ _ (h27))))) K8 K8) (Y9 (e31 _ _ (e30 _ _ (e29 _ _ (h28)))))) (Is.mono s31 _ _ hI1) Iv) ah3);refine Ad (A5 ∅) λt32 H32 ht32 e32 h32=>?_;have s32:=s31.trans e32;have al32:=al31.same e32
 symm
 refine Ad (A5 ∅) λt33 H33 ht33 e33 h33=>?_;have s33:=s32.trans e33;have al33:=al32.same e33
 symm
 refine Ad (A5 ∅) λt34 H34 ht34 e34 h34=>?_;have s34:=s33.trans e34;have al34:=al33.same e34
 symm
 refine Ad (A5 ∅) λt35 H35 ht35 e35 h35=>?_;have s35:=s34.trans e35;have al35:=al34.same e35
 symm
 have al35:=al35.snoc (I0 h35 (Rj (e35 _ _ (h34)) (Is.mono s35 _ _ hI0) (Mx (e35 _ _ (e34 _ _ (h33))) K8 (ak8 (e35 _ _ (e34 _ _ (e33 _ _ (h32)))) K8)) Iv) (Zi hN h1));refine Ck (A5 ∅) λt36 H36 ht36 e36 h36=>?_;have s36:=s35.trans e36;have al36:=al35.same e36
 symm
 refine M5 (e36 _ _ (e35 _ _ (e34 _ _ (e33 _ _ (e32 _ _ (e31 _ _ (e30 _ _ (e29 _ _ (e28 _ _ (e27 _ _ (h26))))))))))) h36 (by simp[sizeLine_eq]) λt37 H37 ht37 e37 h37=>?_;have s37:=s36.trans e37;have al37:=al36.same e37
 symm
 refine Ad (A5 ∅) λt38 H38 ht38 e38 h38=>?_;have s38:=s37.trans e38;have al38:=al37.same e38
 symm
 refine Ad (A5 ∅) λt39 H39 ht39 e39 h39=>?_;have s39:=s38.trans e39;have al39:=al38.same e39
 symm
 refine Ad (A5 ∅) λt40 H40 ht40 e40 h40=>?_;have s40:=s39.trans e40;have al40:=al39.same e40
 symm
 refine Ad (A5 ∅) λt41 H41 ht41 e41 h41=>?_;have s41:=s40.trans e41;have al41:=al40.same e41
 symm
 refine Ad (A5 ∅) λt42 H42 ht42 e42 h42=>?_;have s42:=s41.trans e42;have al42:=al41.same e42
 symm
 have al42:=al42.snoc (I0 h42 (Rj (e42 _ _ (h41)) (Mx (e42 _ _ (e41 _ _ (h40))) (ao1 (SqT.of (e42 _ _ (e41 _ _ (e40 _ _ (e39 _ _ (h38))))))) (Y9 (e42 _ _ (e41 _ _ (e40 _ _ (h39)))))) (Is.mono s42 _ _ hI1) Iv) am7);refine Qr (SqT.of (e42 _ _ (e41 _ _ (e40 _ _ (e39 _ _ (h38)))))) λt43 H43 e43 h43=>?_;have h43:SqT K H43 t43 [.str "a",.str "b"]:=h43;have s43:=s42.trans e43;have al43:=al42.same e43
 symm
 refine Ad (A5 ∅) λt44 H44 ht44 e44 h44=>?_;have s44:=s43.trans e44;have al44:=al43.same e44
 symm
 refine Ad (A5 ∅) λt45 H45 ht45 e45 h45=>?_;have s45:=s44.trans e45;have al45:=al44.same e45
 symm
 refine Y5 (SqT.of h45) nofun ∅ ∅ λt46 H46 e46 h46=>?_;have s46:=s45.trans e46;have al46:=al45.same e46
 symm
 refine Ad (A5 ∅) λt47 H47 ht47 e47 h47=>?_;have s47:=s46.trans e47;have al47:=al46.same e47
 symm
 refine Ad (A5 ∅) λt48 H48 ht48 e48 h48=>?_;have s48:=s47.trans e48;have al48:=al47.same e48
 symm
 refine Ad (A5 ∅) λt49 H49 ht49 e49 h49=>?_;have s49:=s48.trans e49;have al49:=al48.same e49
 symm
 have al49:=al49.snoc (I0 h49 (Rj (e49 _ _ (h48)) (Mx (e49 _ _ (e48 _ _ (h47))) (Is.of_tup (((((((e44).trans e45).trans e46).trans e47).trans e48).trans e49).seqT h43) (.cons K8 (.one K8))) (Yv (Mx (e49 _ _ (e48 _ _ (e47 _ _ (e46 _ _ (e45 _ _ (h44)))))) K8 K8) ((((e47).trans e48).trans e49).seqT h46))) (Is.mono s49 _ _ hI1) Iv) an4);refine Ck (A5 ∅) λt50 H50 ht50 e50 h50=>?_;have s50:=s49.trans e50;have al50:=al49.same e50
 symm
 refine M5 (e50 _ _ (e49 _ _ (e48 _ _ (e47 _ _ (e46 _ _ (e45 _ _ (e44 _ _ (e43 _ _ (e42 _ _ (e41 _ _ (e40 _ _ (e39 _ _ (e38 _ _ (h37)))))))))))))) h50 (by simp[sizeLine_eq]) λt51 H51 ht51 e51 h51=>?_;have s51:=s50.trans e51;have al51:=al50.same e51
 symm
 refine⟨d,l,_,rfl,hF.same s51,by omega,by omega,λj H52 j0 j1 e52 hF52=>?_⟩;have hd51:∃ kvs,H51 d=some (.dK kvs):=let ⟨_,_,_,_,h,_⟩:=hF.same s51;⟨_,h⟩;obtain⟨kvs,hd51⟩:=hd51;have h52:=e52 _ _ (λz=>by rw[<- z,h51] at hd51;cases hd51) h51;obtain⟨n,rfl⟩:∃ n:Nat,j=(n:Int):=⟨j.toNat,by omega⟩;have hx:=List.getElem?_eq_getElem (show n<(((([V.ref t4,V.ref t6,V.ref t8]++[V.ref t11,V.ref t14,V.ref t16])++[V.ref t21,V.ref t24])++[V.ref t31,V.ref t35])++[V.ref t42,V.ref t49]).length by simp;omega);refine Qq h52 (B0 hx) ?_;refine k _ H52 (λb o hb h=>e52 b o hb (s51 _ _ h)) hF52 ?_;have ham:=al51 _ (A06 hx);obtain⟨t,bad,w,D,e,a1,a2,a3⟩:=ham;refine⟨t,bad,w,D,e,?_,Is.off hd51 e52 _ _ a2,a3⟩;rcases a1 with g|g
 . exact .inl (g.elim (λg=>.inl (e52 _ _ (λz=>by rw[<- z,g] at hd51;cases hd51) g)) λ⟨o,g⟩=>.inr ⟨o,e52 _ _ (λz=>by rw[<- z,g] at hd51;cases hd51) g⟩)
 exact .inr g
def spLaw (K:W.Frag):Sp:=λvs H Q _=>∃(a:Addr) (ns:List Int),vs=[.ref a]/\SqL K H a (ns.map V.int)/\ns.length<=63/\∀ H',Q (.bl true) H'
theorem Gq {H:Hp}{d l:Addr}(h:Feed H d l):∃ kvs,H d=some (.dK kvs):=let ⟨_,_,_,_,g,_⟩:=h;⟨_,g⟩
structure Lw (K:W.Frag)(d l:Addr)(v ov rv:V)(ms:List Str)(H:Hp):Prop where
 feed:Feed H d l
 half:Is K H (hfD ms []) v
 other:Is K H (hfD ["other"] []) ov
 row:Is K H (Kd ms) rv
theorem Lw.same {K:W.Frag}{d l:Addr}{v ov rv:V}{ms:List Str}{H H':Hp}(h:Lw K d l v ov rv ms H)(e:Same H H'):Lw K d l v ov rv ms H':=⟨h.feed.same e,Is.mono e _ _ h.half,Is.mono e _ _ h.other,Is.mono e _ _ h.row⟩
theorem Lw.draw {K:W.Frag}{d l:Addr}{v ov rv:V}{ms:List Str}{H H':Hp}(h:Lw K d l v ov rv ms H)(e:ExtBut d H H')(hF:Feed H' d l):Lw K d l v ov rv ms H':=
 let ⟨_,g⟩:=Gq h.feed
 ⟨hF,Is.off g e _ _ h.half,Is.off g e _ _ h.other,Is.off g e _ _ h.row⟩
theorem Lw.lst {K:W.Frag}{d l:Addr}{v ov rv:V}{ms:List Str}{H H':Hp}(h:Lw K d l v ov rv ms H)(e:ExtBut d H H'){a:Addr}{xs:List V}(g:H a=some (.lst xs)):H' a=some (.lst xs):=by obtain⟨kvs,hd⟩:=Gq h.feed;exact e _ _ (λy=>by rw[<- y,g] at hd;cases hd) g
def okW:Option (Str×Int)->Prop
 |none=>True
 |some (w,_)=>PyData.strOk w=true
theorem Lg:PyData.strOk ("row":Str)=true/\PyData.strOk ("ref":Str)=true/\PyData.strOk ("half":Str)=true/\PyData.strOk ("number":Str)=true/\PyData.strOk ("shape":Str)=true/\PyData.strOk ("last":Str)=true:=by decide +kernel
theorem Rw.okw {D:PyData}{m:Nat}{o:Option Str}(h:Rw D m o):∀ w,o=some w->PyData.strOk w=true:=by
 obtain ⟨o1,o2,o3,o4,_⟩:=Lg
 cases h with
 |bad _=>intro w e;cases e;exact o1
 |tale _ _=>intro w e;cases e;exact o1
 |ok _ _ _ _ _ _=>
   intro w e;unfold wdO at e
   split at e
   . cases e;exact o1
   split at e
   . cases e;exact o2
   split at e
   . cases e;exact o3
   split at e
   . cases e;exact o4
   cases e
theorem Xy {len:Nat}{o:Option (Str×Nat)}{al:Bool}(h:∀ w j,o=some (w,j)->PyData.strOk w=true):okW (tlW len o al):=by
 obtain⟨_,_,_,_,o5,o6⟩:=Lg;unfold tlW
 split
 . exact o5
 split
 . exact h _ _ rfl
 split
 . trivial
 exact o6
theorem Kt {len:Nat}{al:Bool}:okW (tlW len none al):=Xy λw j e=>by cases e
theorem Ip:∀ {o:Option (Str×Int)},okW o->SeqAt.shaped (tlD o)=true
 |none,_=>by rfl
 |some (w,j),h=>by simp only[tlD,SeqAt.shaped,PyData.canLay0,PyData.canLayAll0,PyData.depth,PyData.depthAll,show PyData.strOk w=true from h];rfl
theorem Na:∀ {o:Option (Str×Int)},PyData.eqv (tlD o) (tlD o)=true
 |none=>by rfl
 |some (w,j)=>by simp[tlD,PyData.eqv,PyData.eqvAll]
theorem ar3 {t:TT}{ta tb:TE}{σ:L2.St}{H:Hp}{Q:VK}(M:V->Hp->Prop)(h1:(∀ u H',M u H'->Q u H')->tIf t ta tb σ H Q)(h2:∀ u H',M u H'->Q u H'):tIf t ta tb σ H Q:=h1 h2
theorem ab5 {f:Addr}{fd:FuncData}(F:Fun K "law" "law" Ln f fd)(T:Fj mg)(B6:Fnd P w K mg base 7 "rows_fault" ["rows"] (Cr K))(Fe:Fnd P w K mg base 1 "_law_feed" ["_law_script"] (Ec K))(Aj:Fnd P w K mg base 1 "_law_draw" ["_law_feed_here","_law_many"] (C1 K))(Ei:Fnd P w K mg base 3 "_law_names" ["_law_feed_here"] (Dx K))(C9:Fnd P w K mg base 9 "_law_told" ["_law_half","_law_paper"] (Et K))(Er:Fnd P w K mg base 2 "_law_amiss" ["_law_feed_here","_law_row","_law_many"] (Do K)):FnOk P w K mg base CX0 10 f fd ["_law_script"] (spLaw K):=by
 refine F.ok D7 (λvs H Q E h=>?_) (λcdv A outer s H vs Q E hr h=>?_)
 . obtain⟨a,ns,rfl,_⟩:=h;rfl
 obtain⟨a,cs,rfl,hS,h63,k⟩:=h;have hu:=C4 hr;have hq:=C3 hr
 with_reducible refine⟨_,(A2 (Ao (i:=1) D7.nd ⋯ (by eq_refl) (As Fe (hr.mono nofun) ⋯ (A0 (pv 0) A1)))
  (A2 (Ao (i:=2) D7.nd ⋯ (by eq_refl) (Ah (A6 (K:=K) hu) (As Ei (hr.mono nofun) ⋯ (A0 (pv 1) A1)) A3 (by ac_rfl)))
  (A2 (Ao (i:=3) D7.nd ⋯ (by eq_refl) (Ah (A6 (K:=K) hu) (Co (A0 (Ae (A0 (Ae A1) (A0 (Ae A1) A1))) (A0 (Ae (A0 (Ae (A0 (pv 2) A1)) (A0 (Ae A1) A1))) A1))) (As Aj (hr.mono nofun) ⋯ (A0 (pv 1) (A0 A3 A1))) (by ac_rfl)))
  (A2 (Ao (i:=4) D7.nd ⋯ (by eq_refl) (Ae (A0 (Ae (A0 A7 A1)) (A0 (Ae A1) A1))))
  (A2 (Ao (i:=5) D7.nd ⋯ (by eq_refl) (Ae (A0 (pv 3) (A0 (Ae (A0 A7 A1)) (A0 A3 A1)))))
  (A2 (Hv A2C ⋯ (Gb ⋯ T.b_range (A0 A3 A1)) (Aq (i:=6) D7.nd ⋯ (by eq_refl))
  (A2 (Ao (i:=7) D7.nd ⋯ (by eq_refl) (Ah (A6 (K:=K) hu) (Co (A0 (Ah (A6 (K:=K) hu) (Co (A0 A3 (A0 A3 (A0 A3 (A0 A3 A1))))) (As Aj (hr.mono nofun) ⋯ (A0 (pv 1) (A0 A3 A1))) (by ac_rfl)) (A0 (As Aj (hr.mono nofun) ⋯ (A0 (pv 1) (A0 A3 A1))) A1))) (pv 6) (by ac_rfl)))
  (A2 (Ao (i:=8) D7.nd ⋯ (by eq_refl) (Aw (Q6 (K:=K)) (Ae (A0 (pv 5) A1)) (pv 7)))
  (A2 (Ao (i:=9) D7.nd ⋯ (by eq_refl) (L4 (Vu Qn Qn A3 (pv 7) A3) A3 (Ae (A0 A7 (A0 (Nc Hs A3) A1)))))
  (A2 (Ax (PW.pt (Ka (Af (Gd (K:=K) hq) (As C9 (hr.mono nofun) ⋯ (A0 (pv 3) (A0 (pv 8) A1))) (pv 9) (Ag _)) (Fx (Af J5 (As B6 (hr.mono nofun) ⋯ (A0 (pv 8) A1)) Cs (Ag _))))) (A4 (Ab Fi)) Ac)
  (A2 (Ax (PW.pt (My (Af (B5 (K:=K) hq) (pv 6) A3 (Ag _)) (My (Af Ur (pv 7) A3 (Ag _)) (Oq (Af (Gd (K:=K) hq) (As C9 (hr.mono nofun) ⋯ (A0 (pv 4) (A0 (pv 8) A1))) (Ae (A0 A7 (A0 (Aw P6 (pv 7) A3) A1))) (Ag _)))))) (A4 (Ab Fi)) Ac)
  (A4 (Ax (Af Ur (pv 7) A3 (Ag _)) (A2 (Ao (i:=10) D7.nd ⋯ (by eq_refl) (As Aj (hr.mono nofun) ⋯ (A0 (pv 1) (A0 (pv 7) A1))))
  (A2 (Y6 (As Er (hr.mono nofun) ⋯ (A0 (pv 1) (A0 (pv 5) (A0 (pv 10) A1)))) (Gj (K:=K) (n:=2) ⋯ (Bw (Aq (i:=11) D7.nd ⋯ (by eq_refl)) (Bw (Aq (i:=12) D7.nd ⋯ (by eq_refl)) Go))))
  (A2 (Ao (i:=8) D7.nd ⋯ (by eq_refl) (Aw (B2 (K:=K)) (Aw (B2 (K:=K)) (Cd (V8 (K:=K)) (pv 8) Fh (C8 (pv 10))) (Ae (A0 (pv 11) A1))) (Cd (V8 (K:=K)) (pv 8) (C8 (Aw (B2 (K:=K)) (pv 10) A3)) Fh)))
  (A4 (Ax (PW.pt (Ka (Af (Gd (K:=K) hq) (As C9 (hr.mono nofun) ⋯ (A0 (pv 3) (A0 (pv 8) A1))) (L4 (Af (B5 (K:=K) hq) (pv 9) A3 (Ag _)) (Ae (A0 (pv 12) (A0 (pv 10) A1))) (pv 9)) (Ag _)) (Fx (Af (Gd (K:=K) hq) (As B6 (hr.mono nofun) ⋯ (A0 (pv 8) A1)) (Ae (A0 (pv 12) (A0 (pv 10) A1))) (Ag _))))) (A4 (Ab Fi)) Ac))))) Ac))))))))
  (A4 (Ab (Cm (Az (B5 (K:=K) hq) (As C9 (hr.mono nofun) ⋯ (A0 (pv 3) (A0 (Ae A1) A1))) (Ae (A0 A7 (A0 (Nc Hs A3) A1))) (Ag _)) (Cy (Az Qb (As B6 (hr.mono nofun) ⋯ (A0 (Ae A1) A1)) Cs (Ag _)))))))))))),?_⟩
 symm
 refine⟨a,cs,rfl,hS,h63,λd l H1 hd hl e1 hF=>?_⟩
 symm
 refine⟨d,l,rfl,hF,λp2 ns H2 hp2 e2 hF2 h2 hN hl2=>?_⟩;obtain⟨z,hz⟩:∃ z,ns[0]? = some z:=⟨_,A03 (by omega)⟩
 symm
 refine Qq h2 (show atI (ns.map V.str) ((0:Nat):Int)=some (.str z) from B0 (by rw[A0G,hz];rfl)) ?_
 symm
 refine Ad (A5 ∅) λt3 H3 ht3 e3 h3=>?_
 symm
 refine Ad (A5 ∅) λt4 H4 ht4 e4 h4=>?_
 symm
 refine Ad (A5 ∅) λt5 H5 ht5 e5 h5=>?_
 symm
 refine Ad (A5 ∅) λt6 H6 ht6 e6 h6=>?_
 symm
 refine Ad (A5 ∅) λt7 H7 ht7 e7 h7=>?_
 symm
 refine Ad (A5 ∅) λt8 H8 ht8 e8 h8=>?_
 symm
 refine Ck (A5 ∅) λt9 H9 ht9 e9 h9=>?_;have e79:=(e7.trans e8).trans e9;have e69:=e6.trans e79;have e59:=e5.trans e69;have hA:Is K H9 (hfD [] []) (.ref t5):=Mx (e69 _ _ h5) (Y9 (e59 _ _ (e4 _ _ h3))) (Y9 (e59 _ _ h4));have hB:Is K H9 (hfD [z] []) (.ref t8):=Mx (e9 _ _ h8) (ak8 (e79 _ _ h6) K8) (Y9 (e9 _ _ (e8 _ _ h7)));have hF9:Feed H9 d l:=hF2.same (((e3.trans e4)).trans e59)
 symm
 refine⟨d,l,_,rfl,hF9,by omega,by omega,λj H10 j0 j1 e10 hF10=>?_⟩;have hzm:z∈ns:=A06 hz
 obtain⟨v,ms,hv,hI10,hM,hm1,hot⟩:∃ v ms,atI [V.ref t5,V.ref t8] j=some v/\Is K H10 (hfD ms []) v/\Names ms/\ms.length<=1/\("other":Str)∉ms:=by
  obtain⟨kvs,hd9⟩:=Gq hF9;rcases(by omega:j=0\/j=1) with rfl|rfl
  . exact⟨_,[],rfl,Is.off hd9 e10 _ _ hA,⟨by simp,λ_ h=>by cases h⟩,by simp,by simp⟩
  exact⟨_,[z],rfl,Is.off hd9 e10 _ _ hB,⟨by simp,λy hy=>by rw[List.mem_singleton.mp hy];exact hN.nm.2 z hzm⟩,by simp,λh=>hN.ot (List.mem_singleton.mp h ▸ hzm)⟩
 have h10:H10 t9=some (.lst [V.ref t5,V.ref t8]):=by obtain⟨kvs,hd9⟩:=Gq hF9;exact e10 _ _ (λy=>by rw[<- y,h9] at hd9;cases hd9) h9
 refine Qq h10 hv ?_;clear hA hB hS h3 h4 h5 h6 h7 h8 h9 h10 e3 e4 e5 e6 e7 e8 e9 e59 e69 e79 e10 h2 e2 hp2 hd hl e1 hF hF2 hF9 ht3 ht4 ht5 ht6 ht7 ht8 ht9 hv
 symm
 refine Ad (A5 ∅) λt11 H11 _ e11 h11=>?_
 symm
 refine Ad (A5 ∅) λt12 H12 _ e12 h12=>?_
 symm
 refine Ad (A5 ∅) λt13 H13 _ e13 h13=>?_
 symm
 refine Ad (A5 ∅) λt14 H14 _ e14 h14=>?_
 symm
 refine Ad (A5 ∅) λt15 H15 _ e15 h15=>?_;have e45:=e14.trans e15;have hO:Is K H15 (hfD ["other"] []) (.ref t13):=Mx (e45 _ _ h13) (ak8 (e45 _ _ (e13 _ _ (e12 _ _ h11))) K8) (Y9 (e45 _ _ (e13 _ _ h12)));have e15':=(((e11.trans e12).trans e13).trans e45);have hR:Is K H15 (Kd ms) (.ref t15):=Rj h15 (Is.mono e15' _ _ hI10) (ak8 (e15 _ _ h14) K8) Iv;have hI15:=Is.mono e15' _ _ hI10;have hF15:=hF10.same e15';clear h11 h12 h13 h14 h15 e11 e12 e13 e14 e15 e15' e45 hI10 hF10
 symm
 refine Q4 (by omega) ?_;refine Tf Ex (λi σ H2=>∃ x6 x7 x8 x9 x10 x11 x12,σ=[some (.ref a),some (.ref d),some (.str z),some v,some (.ref t13),some (.ref t15),x6,x7,x8,x9,x10,x11,x12]/\Feed H2 d l/\Is K H2 (hfD ms []) v/\Is K H2 (hfD ["other"] []) (.ref t13)/\Is K H2 (Kd ms) (.ref t15)) ⟨_,_,_,_,_,_,_,rfl,hF15,hI15,hO,hR⟩ (λ_ _ _ _=>trivial) (λi x σ H2 hx hi hP=>?_) (fun σ H2 hP=>?_)
 . obtain⟨x6,x7,x8,x9,x10,x11,x12,rfl,hF2,hI2,hO2,hR2⟩:=hP;obtain⟨rfl,hi2⟩:=Lx hx;have hi3:i<2:=hi2
   symm
   refine Ck (A5 ∅) λq3 H3 _ e3 h3=>?_
   symm
   refine⟨d,l,_,rfl,hF2.same e3,by omega,by omega,λj4 H4 j40 j41 e4 hF4=>?_⟩;have b3:Lw K d l v (.ref t13) (.ref t15) ms H3:=(show Lw K d l v (.ref t13) (.ref t15) ms H2 from⟨hF2,hI2,hO2,hR2⟩).same e3;have h4:=b3.lst e4 h3;have b4:=b3.draw e4 hF4
   obtain⟨w4,hw4,hwa,hwb⟩:∃ w:Nat,atI [V.int 1200,V.int 1201,V.int 1199,V.int 1202] j4=some (.int (w:Int))/\1199<=w/\w<=1202:=by
    rcases(by omega:j4=0\/j4=1\/j4=2\/j4=3) with rfl|rfl|rfl|rfl
    . exact⟨1200,rfl,by omega,by omega⟩
    . exact⟨1201,rfl,by omega,by omega⟩
    . exact⟨1199,rfl,by omega,by omega⟩
    exact⟨1202,rfl,by omega,by omega⟩
   refine Qq h4 hw4 ?_
   symm
   refine⟨d,l,_,rfl,hF4,by omega,by omega,λj5 H5 j50 j51 e5 hF5=>?_⟩;have b5:=b4.draw e5 hF5
   symm
   refine Ck (A5 ∅) λq6 H6 _ e6 h6=>?_;have b6:=b5.same e6
   obtain⟨m,hm,hmle,hm40⟩:∃ m:Nat,atI [V.int (w4:Int),V.int j5] (0+(i:Int))=some (.int (m:Int))/\m<=1202/\(i=1->m<40):=by
    rcases(by omega:i=0\/i=1) with rfl|rfl
    . exact⟨w4,rfl,hwb,λh=>by cases h⟩
    exact⟨j5.toNat,by rw[A31 j50];rfl,by omega,λ_=>by omega⟩
   symm
   refine Qq h6 hm ?_
   symm
   refine Ad (A5 ∅) λq7 H7 _ e7 h7=>?_
   symm
   refine Y5 (SqT.of h7) ⟨by omega,by omega⟩ ∅ ∅ λp8 H8 e8 h8=>?_;have b8:=(b6.same e7).same e8;have hP8:Is K H8 (.tuple (List.replicate m (Kd ms))) (.ref p8):=Yv b8.row (by rw[Int.toNat_natCast] at h8;exact h8);clear h3 e3 h4 e4 e5 h6 e6 h7 e7 e8 h8 b3 b4 b5 b6 hF2 hI2 hO2 hR2 hF4 hF5
   symm
   refine ar3 (λu H'=>Same H8 H'/\Is K H' (tlD (tlW m none true)) u) (λrest=>?_) (λu H9 hM=>?_)
   . refine Zx ?_
     symm
     refine Ki (λhc=>?_) (λhc=>?_)
     . symm
       refine Ki (λhc2=>?_) (λhc2=>?_)
       . exact rest (.int 1) H8 ⟨.refl _,by rw[Oe (by omega)];simp only[tlD,Is]⟩
       symm
       refine Ad (A5 ∅) λq9 H9 _ e9 h9=>?_;exact rest _ H9 ⟨e9,by rw[K0 (by omega)];exact Mx h9 K8 Iv⟩
     symm
     refine Ad (A5 ∅) λq9 H9 _ e9 h9=>?_;exact rest _ H9 ⟨e9,by rw[K0 (by omega)];exact Mx h9 K8 Iv⟩
   obtain⟨e9,hU⟩:=hM;have b9:=b8.same e9;have hP9:=Is.mono e9 _ _ hP8;have hlr:(List.replicate m (Kd ms)).length=m:=A1B
   have hFl:Fl (List.replicate m (Kd ms)) none:=λi D h=>by rw[A42 (A06 h)];exact Q3 hM hm1
   have hW0:=hw0 hM.1 (show ms.length<=10 by omega)
   have hlst:0<m->(List.replicate m (Kd ms))[(List.replicate m (Kd ms)).length-1]? = some (Kd ms):=λh=>by rw[hlr,A34,A0Q (by omega)]
   symm
   refine⟨v,.ref p8,ms,[],_,none,true,rfl,b9.half,hW0,hP9,by rw[hlr];omega,hFl,λ_ h=>⟨ms,[],_,hlst (by rw[hlr] at h;exact h),hW0,by simp⟩,λu1 H10 e10 hU1=>?_⟩;rw[hlr] at hU1;have b10:=b9.same e10;have hP10:=Is.mono e10 _ _ hP9
   symm
   refine U7 hU1 (Is.mono e10 _ _ hU) (Ip Kt) (Ip Kt) ?_;rw[Na]
   symm
   refine⟨.ref p8,_,none,rfl,hP10,by rw[hlr];omega,hFl,λu2 H11 e11 hU2=>?_⟩;obtain rfl:u2 = .non:=by simpa only[flD,Is] using hU2
   have b11:=b10.same e11;have hP11:=Is.mono e11 _ _ hP10;have hU11:=Is.mono (e10.trans e11) _ _ hU;clear e9 e10 e11 hU hU1 hU2 hP8 hP9 hP10 b8 b9 b10;walk_at "rq"
   with_reducible refine W1 (fun σ' H'=>σ'=[some (V.ref a),some (.ref d),some (.str z),some v,some (.ref t13),some (.ref t15),some (.int (0+(i:Int))),some (.int (m:Int)),some (.ref p8),some u,x10,x11,x12]/\Same H11 H') (λN hN=>?_) (fun σ1 H12 hM12=>?_)
   . walk_at "rq";refine Ki (λhc=>?_) (λhc=>?_)
     . have hi1:i=1:=by have:=V.int.inj hc;omega
       walk_at "rq";refine Ki (λhc2=>?_) (λhc2=>?_)
       . walk_at "rq";have hW1:HalfW ["other"] []:=hw0 ∅ ∅;refine⟨.ref t13,.ref p8,["other"],[],_,none,false,rfl,b11.other,hW1,hP11,by rw[hlr];omega,hFl,λ_ h=>⟨ms,[],_,hlst (by rw[hlr] at h;exact h),hW0,⟨λh=>(by cases h),λh=>absurd ((h.1 "other").mpr ∅) hot⟩⟩,λu1 H12 e12 hU1=>?_⟩;rw[hlr] at hU1;walk_at "rq";refine Ad (A5 ∅) λq13 H13 _ e13 h13=>?_;walk_at "rq";have htl:tlW m none false=some (("last":Str),(m:Int)-1):=Pd (by have:=hm40 hi1;omega);refine U7 (Is.mono e13 _ _ hU1) (dy:=tlD (tlW m none false)) (by rw[htl];exact Mx h13 K8 Iv) (Ip Kt) (Ip Kt) ?_;rw[Na];walk_at "rq";exact hN _ _ ⟨rfl,e12.trans e13⟩
       walk_at "rq";exact hN _ _ ⟨rfl,.refl _⟩
     walk_at "rq";exact hN _ _ ⟨rfl,.refl _⟩
   obtain⟨rfl,e12⟩:=hM12;have b12:=b11.same e12;have hP12:=Is.mono e12 _ _ hP11;have hU12:=Is.mono e12 _ _ hU11;clear e12 hP11 hU11 b11
   symm
   refine Ki (λhc=>?_) (λhc=>?_)
   . symm
     refine⟨d,l,_,rfl,b12.feed,by omega,by omega,λj13 H13 j130 j131 e13 hF13=>?_⟩;have b13:=b12.draw e13 hF13;obtain⟨kvs12,hd12⟩:=Gq b12.feed;have hP13:=Is.off hd12 e13 _ _ hP12;have hU13:=Is.off hd12 e13 _ _ hU12;obtain⟨g,rfl⟩:∃ g:Nat,j13=(g:Int):=⟨j13.toNat,by omega⟩
     symm
     refine⟨d,l,_,ms,g,rfl,hF13,b13.row,hM,hm1,λx14 H14 e14 hF14 hA14=>?_⟩;obtain⟨kvs13,hd13⟩:=Gq hF13;have b14:=b13.draw e14 hF14;have hP14:=Is.off hd13 e14 _ _ hP13;have hU14:=Is.off hd13 e14 _ _ hU13;obtain⟨t14,bad,wd,D,rfl,hS14,hI14,hR14⟩:=hA14;clear hP12 hU12 hP13 hU13 b12 b13 hd12 hd13 e13 e14 hF13
     symm
     refine⟨t14,_,rfl,hS14,rfl,bad,[_],rfl,_,[],rfl,rfl,?_⟩
     symm
     obtain⟨pa,xs,epa,hS8,hL8⟩:=hP14.tup
     cases epa;have hxl:=(IsL.length hL8).symm.trans hlr;refine Qr hS8 λq15 H15 e15 h15=>?_;rw[Pc (by omega),Int.toNat_natCast] at h15
     symm
     refine Ad (A5 ∅) λq16 H16 _ e16 h16=>?_
     symm
     refine Yb (e16.seqT h15) (SqT.of h16) (A5 (by simp;omega)) λq17 H17 e17 h17=>?_;have e57:=(e15.trans e16).trans e17
     symm
     refine Qr (e57.seqT hS8) λq18 H18 e18 h18=>?_;rw[J9 (by omega),show((g:Int)+1).toNat=g+1 by omega] at h18
     symm
     refine Yb (e18.seqT h17) h18 (A5 (by simp;omega)) λq19 H19 e19 h19=>?_;have e59:=(e57.trans e18).trans e19
     have hP19:Is K H19 (.tuple (((List.replicate m (Kd ms)).take g++[D])++(List.replicate m (Kd ms)).drop (g+1))) (.ref q19):=by have hL:=IsL.mono e59 _ _ hL8;exact Is.of_tup h19 (((hL.take g).append (.one (Is.mono e59 _ _ hI14))).append (hL.drop (g+1)))
     have hl2:(((List.replicate m (Kd ms)).take g++[D])++(List.replicate m (Kd ms)).drop (g+1)).length=m:=by simp;omega
     have hF2:Fl (((List.replicate m (Kd ms)).take g++[D])++(List.replicate m (Kd ms)).drop (g+1)) (some (wd,g)):=by
      have hg:((List.replicate m (Kd ms)).take g).length=g:=by rw[A17,hlr];omega
      refine⟨⟨D,by rw[A1I,A1S (by omega),hg,Nat.sub_self];rfl,hR14⟩,λi D' hi h=>?_⟩;rw[A1I,A1K (by omega)] at h;rw[A42 (A2W (A06 h))];exact Q3 hM hm1
     generalize ((List.replicate m (Kd ms)).take g++[D])++(List.replicate m (Kd ms)).drop (g+1)=ds at hP19 hl2 hF2;have b19:=b14.same e59;have hU19:=Is.mono e59 _ _ hU14;have okw:=hR14.okw wd rfl;clear hP14 hU14 b14 e15 e16 e17 e18 e19 e57 e59 h15 h16 h17 h18 h19 hL8 hS8 hI14 hS14 hFl hlst
     symm
     refine⟨v,.ref q19,ms,[],ds,some (wd,g),true,rfl,b19.half,hW0,hP19,by omega,hF2,λh=>(by cases h),λu20 H20 e20 hU20=>?_⟩;rw[hl2] at hU20;have b20:=b19.same e20;have hP20:=Is.mono e20 _ _ hP19;have hD20:=Is.mono e20 _ _ hU19;have ok2:okW (tlW m (some (wd,g)) true):=Xy λw j e=>by cases e;exact okw
     symm
     refine ar3 (λu' H'=>Same H20 H'/\Is K H' (tlD (tlW m (some (wd,g)) true)) u') (λrest=>?_) (λu21 H21 hM21=>?_)
     . refine Zx ?_
       symm
       by_cases hin:m<1\/1200<m
       . rw[K0 hin] at hD20;refine a48 hD20 Iv (Ip (show okW (some (("shape":Str),(-1:Int))) from Lg.2.2.2.2.1)) (by rfl) ?_;rw[show PyData.eqv (tlD (some (("shape":Str),(-1:Int)))) (.int 1)=false by rfl];refine⟨_,rfl,?_⟩;rw[A0L A0B];exact⟨u,rfl,rest u H20 ⟨.refl _,by rw[K0 hin];exact hD20⟩⟩
       rw[Oe hin] at hD20;refine a48 hD20 Iv (by rfl) (by rfl) ?_;rw[show PyData.eqv (tlD none) (.int 1)=true by rfl];refine⟨_,rfl,?_⟩;rw[A0Q rfl]
       symm
       refine Ad (A5 ∅) λq21 H21 _ e21 h21=>?_;exact rest _ H21 ⟨e21,by rw[Pl hin];exact Mx h21 K8 Iv⟩
     obtain⟨e21,hU21⟩:=hM21
     symm
     refine U7 (Is.mono e21 _ _ hU20) hU21 (Ip ok2) (Ip ok2) ?_;rw[Na]
     symm
     refine⟨.ref q19,_,some (wd,g),rfl,Is.mono e21 _ _ hP20,by omega,hF2,λu22 H22 e22 hU22=>?_⟩
     symm
     refine Ad (A5 ∅) λq23 H23 _ e23 h23=>?_
     symm
     refine U7 (dx:=tlD (some (wd,(g:Int)))) (dy:=tlD (some (wd,(g:Int)))) (Is.mono e23 _ _ hU22) (Mx h23 K8 Iv) (Ip okw) (Ip okw) ?_;rw[Na]
     symm
     have b23:=((b20.same e21).same e22).same e23;exact⟨_,_,_,_,_,_,_,rfl,b23.feed,b23.half,b23.other,b23.row⟩
   symm
   exact⟨_,_,_,_,_,_,_,rfl,b12.feed,b12.half,b12.other,b12.row⟩
 obtain⟨x6,x7,x8,x9,x10,x11,x12,rfl,hF2,hI2,hO2,hR2⟩:=hP
 symm
 refine Ad (A5 ∅) λq3 H3 _ e3 h3=>?_
 symm
 have hI3:=Is.mono e3 _ _ hI2;refine⟨v,.ref q3,ms,[],[],none,true,rfl,hI3,hw0 hM.1 (by omega),Y9 h3,by simp,λi D h=>(by cases h),λ_ h=>(by cases h),λu4 H4 e4 hU4=>?_⟩
 symm
 refine Ad (A5 ∅) λq5 H5 _ e5 h5=>?_
 symm
 refine a48 (dx:=tlD (tlW 0 none true)) (dy:=tlD (tlW 0 none true)) (Is.mono e5 _ _ hU4) (by rw[K0 (by omega)];exact Mx h5 K8 Iv) (Ip Kt) (Ip Kt) ?_;rw[Na]
 symm
 refine Ad (A5 ∅) λq6 H6 _ e6 h6=>?_
 symm
 refine⟨.ref q6,[],none,rfl,Y9 h6,by simp,λi D h=>(by cases h),λu7 H7 e7 hU7=>?_⟩;obtain rfl:u7 = .non:=by simpa only[flD,Is] using hU7
 symm
 exact k H7
end
theorem all_mk {l:W.OpenLaw}{w:World}{K:W.Frag}{h:Heap}{mg:Str->Option Value}{fa f34 f35 C_HalfError C_NoHalf C_NoName C_NoPaper C_NoPlan C_NoBound D_RULES RULES_t0 RULES_t1 RULES_t2 RULES_t3 RULES_t4 RULES_t5 RULES_t6 RULES_t7:Addr}(X:K.In h)(G:h.Ns mainGlobals mg)(hfa:mg "law" = some (.ref fa))
  {D34 N34 D35 N35:Option Addr} {S34 S35:Array (Option Value)} {O34 V34 E34 P34 Q34 U34 O35 V35 E35 P35 Q35 U35:Value}
  (cg:W.specialIn K (.builtin "object.__class__") "__get__" = some (some (.builtin "getset_descriptor.__get__"))) (ct:W.takesIn K (.builtin "object.__class__")=some true)
  (aX_HalfError:W.nsIn K mainGlobals "HalfError" = some (some (.ref C_HalfError)))
  (aX_NoHalf:W.nsIn K mainGlobals "NoHalf" = some (some (.ref C_NoHalf)))
  (aX_NoName:W.nsIn K mainGlobals "NoName" = some (some (.ref C_NoName)))
  (aX_NoPaper:W.nsIn K mainGlobals "NoPaper" = some (some (.ref C_NoPaper)))
  (aX_NoPlan:W.nsIn K mainGlobals "NoPlan" = some (some (.ref C_NoPlan)))
  (aX_NoBound:W.nsIn K mainGlobals "NoBound" = some (some (.ref C_NoBound)))
  (ex_HalfError:xF K C_HalfError C_HalfError true true []=true)
  (ex_NoHalf:xF K C_NoHalf C_HalfError false false ["word","number"]=true)
  (ex_NoName:xF K C_NoName C_HalfError false false ["name"]=true)
  (ex_NoPaper:xF K C_NoPaper C_HalfError false false ["word","row"]=true)
  (ex_NoPlan:xF K C_NoPlan C_HalfError false false ["word","path"]=true)
  (ex_NoBound:xF K C_NoBound C_HalfError false false ["word","row"]=true)
  (ndX:([C_HalfError,C_NoBound,C_NoHalf,C_NoName,C_NoPaper,C_NoPlan]:List Addr).Nodup)
  {ep_RULES:Nat} {k_RULES_t0 k_RULES_t1 k_RULES_t2 k_RULES_t3 k_RULES_t4 k_RULES_t5 k_RULES_t6 k_RULES_t7:Tok} (aD_RULES:W.nsIn K mainGlobals "RULES" = some (some (.ref D_RULES))) (sD_RULES:(D_RULES==sysModules)=false) (lD_RULES:K.lookup D_RULES=some ⟨.type "dict",none,.dict #[⟨PyData.keyHash w.params "row",.str "row" k_RULES_t0,.ref RULES_t0⟩,⟨PyData.keyHash w.params "ask",.str "ask" k_RULES_t1,.ref RULES_t1⟩,⟨PyData.keyHash w.params "last",.str "last" k_RULES_t2,.ref RULES_t2⟩,⟨PyData.keyHash w.params "first",.str "first" k_RULES_t3,.ref RULES_t3⟩,⟨PyData.keyHash w.params "above",.str "above" k_RULES_t4,.ref RULES_t4⟩,⟨PyData.keyHash w.params "beside",.str "beside" k_RULES_t5,.ref RULES_t5⟩,⟨PyData.keyHash w.params "turned",.str "turned" k_RULES_t6,.ref RULES_t6⟩,⟨PyData.keyHash w.params "called",.str "called" k_RULES_t7,.ref RULES_t7⟩] ep_RULES,#[]⟩)
  {n_RULES_t0:Nat} {s_RULES_t0:Array (Option Value)} (l_RULES_t0:K.lookup RULES_t0=some ⟨.type "tuple",none,.seq #[] n_RULES_t0,s_RULES_t0⟩)
  {n_RULES_t1:Nat} {s_RULES_t1:Array (Option Value)} {u0_RULES_t1 u1_RULES_t1 u2_RULES_t1 u3_RULES_t1:Tok} (l_RULES_t1:K.lookup RULES_t1=some ⟨.type "tuple",none,.seq #[.str "name" u0_RULES_t1,.str "name" u1_RULES_t1,.str "number" u2_RULES_t1,.str "number" u3_RULES_t1] n_RULES_t1,s_RULES_t1⟩)
  {n_RULES_t2:Nat} {s_RULES_t2:Array (Option Value)} {u0_RULES_t2:Tok} (l_RULES_t2:K.lookup RULES_t2=some ⟨.type "tuple",none,.seq #[.str "numbers" u0_RULES_t2] n_RULES_t2,s_RULES_t2⟩)
  {n_RULES_t3:Nat} {s_RULES_t3:Array (Option Value)} {u0_RULES_t3:Tok} (l_RULES_t3:K.lookup RULES_t3=some ⟨.type "tuple",none,.seq #[.str "numbers" u0_RULES_t3] n_RULES_t3,s_RULES_t3⟩)
  {n_RULES_t4:Nat} {s_RULES_t4:Array (Option Value)} {u0_RULES_t4 u1_RULES_t4:Tok} (l_RULES_t4:K.lookup RULES_t4=some ⟨.type "tuple",none,.seq #[.str "number" u0_RULES_t4,.str "number" u1_RULES_t4] n_RULES_t4,s_RULES_t4⟩)
  {n_RULES_t5:Nat} {s_RULES_t5:Array (Option Value)} {u0_RULES_t5 u1_RULES_t5:Tok} (l_RULES_t5:K.lookup RULES_t5=some ⟨.type "tuple",none,.seq #[.str "number" u0_RULES_t5,.str "number" u1_RULES_t5] n_RULES_t5,s_RULES_t5⟩)
  {n_RULES_t6:Nat} {s_RULES_t6:Array (Option Value)} {u0_RULES_t6:Tok} (l_RULES_t6:K.lookup RULES_t6=some ⟨.type "tuple",none,.seq #[.str "number" u0_RULES_t6] n_RULES_t6,s_RULES_t6⟩)
  {n_RULES_t7:Nat} {s_RULES_t7:Array (Option Value)} {u0_RULES_t7 u1_RULES_t7:Tok} (l_RULES_t7:K.lookup RULES_t7=some ⟨.type "tuple",none,.seq #[.str "names" u0_RULES_t7,.str "number" u1_RULES_t7] n_RULES_t7,s_RULES_t7⟩)
  (j0:Fk K "behind_each" "behind_each" "behind_each" Dp)
  (j1:Fk K "alike" "alike" "alike" Ox)
  (j2:Fk K "is_whole" "is_whole" "is_whole" Gh)
  (j3:Fk K "is_tuple_of" "is_tuple_of" "is_tuple_of" E1)
  (j4:Fk K "is_name" "is_name" "is_name" Iz)
  (j5:Fk K "are_unlike_names" "are_unlike_names" "are_unlike_names" C5)
  (j6:Fk K "are_tale_names" "are_tale_names" "are_tale_names" Ch)
  (j7:Fk K "is_saying" "is_saying" "is_saying" Fm)
  (j8:Fk K "is_tale_frame" "is_tale_frame" "is_tale_frame" Cw)
  (j9:Fk K "first_wrong_saying" "first_wrong_saying" "first_wrong_saying" Bl)
  (j10:Fk K "is_tale" "is_tale" "is_tale" Jq)
  (j11:Fk K "reach_of" "reach_of" "reach_of" Gu)
  (j12:Fk K "is_row_of" "is_row_of" "is_row_of" Ff)
  (j13:Fk K "reach_turned" "reach_turned" "reach_turned" F2)
  (j14:Fk K "reach_called" "reach_called" "reach_called" F0)
  (j15:Fk K "fits_kind" "fits_kind" "fits_kind" Fp)
  (j16:Fk K "is_rule" "is_rule" "is_rule" Js)
  (j17:Fk K "refs_of" "refs_of" "refs_of" Jh)
  (j18:Fk K "fits_ask" "fits_ask" "fits_ask" Kx)
  (j19:Fk K "fits_ends" "fits_ends" "fits_ends" Ja)
  (j20:Fk K "fits_joined" "fits_joined" "fits_joined" G0)
  (j21:Fk K "fits_rule" "fits_rule" "fits_rule" Fd)
  (j22:Fk K "choices" "choices" "choices" N5)
  (j23:Fk K "number_due" "number_due" "number_due" Ed)
  (j24:Fk K "is_row_frame" "is_row_frame" "is_row_frame" Dd)
  (j25:Fk K "word_due" "word_due" "word_due" Hd)
  (j26:Fk K "rows_fault" "rows_fault" "rows_fault" Eb)
  (j27:Fk K "lets_count" "lets_count" "lets_count" E7)
  (j28:Fk K "_law_feed" "_law_feed" "_law_feed" Fc)
  (j29:Fk K "_law_draw" "_law_draw" "_law_draw" Fs)
  (j30:Fk K "_law_shuffled" "_law_shuffled" "_law_shuffled" D5)
  (j31:Fk K "_law_names" "_law_names" "_law_names" E6)
  (j32:Fk K "_law_told" "_law_told" "_law_told" Ft)
  (j33:Fk K "_law_amiss" "_law_amiss" "_law_amiss" Eo)
  (a34:W.nsIn K mainGlobals "law" = some (some (.ref f34))) (l34:K.lookup f34=some ⟨O34,D34,.func (W.fnOf "law" "law" (Bo Ln) (Bc Ln) (A9 Ln) .none V34 E34 P34 N34 Q34 U34),S34⟩) (c34:W.codeIn K Q34 "law" = true) (k34:W.keepIn K (.ref f34)=true)
  (a35:W.findIn K (.ref C_NoPaper) "__init__" = some (some (.ref f35))) (i35:W.isFn K (.ref f35)=true) (l35:K.lookup f35=some ⟨O35,D35,.func (W.fnOf "__init__" "NoPaper.__init__" (Bo Bb) (Bc Bb) (A9 Bb) .none V35 E35 P35 N35 Q35 U35),S35⟩) (c35:W.codeIn K Q35 "NoPaper.__init__" = true) (k35:W.keepIn K (.ref f35)=true)
  {t0:Tok} (g0:W.nsIn K mainGlobals "MOST_NAMES" = some (some (.int 10 t0)))
  {t1:Tok} (g1:W.nsIn K mainGlobals "MOST_ROWS" = some (some (.int 1200 t1)))
  {t2:Tok} (g2:W.nsIn K mainGlobals "MOST_SAYINGS" = some (some (.int 60 t2)))
  {t3:Tok} (g3:W.nsIn K mainGlobals "MOST_SIGNS" = some (some (.int 8 t3)))
  {t4:Tok} (g4:W.nsIn K mainGlobals "SMALL_LETTERS" = some (some (.str "abcdefghijklmnopqrstuvwxyz" t4)))
  (zz:zIn K ["ValueError","all","any","bool","dict","enumerate","int","isinstance","len","list","range","set","str","sum","tuple","zip"]=true)
  : ∃ fd:FuncData,(∀(s:Shared) (v:Value),BindsTo s fd ⟨[v],[]⟩ [("_law_script",v)])/\∀ base:Heap,K.In base->base.Ns mainGlobals mg->FnOk l.prog w K mg base CX0 10 fa fd ["_law_script"] (spLaw K):=by
 have e:=hfa.symm.trans (A1C X G a34)
 cases e;have T:Fj mg:=⟨⟨_,A1C X G g0,⟨_,rfl⟩⟩,⟨_,A1C X G g1,⟨_,rfl⟩⟩,⟨_,A1C X G g2,⟨_,rfl⟩⟩,⟨_,A1C X G g3,⟨_,rfl⟩⟩,⟨_,A1C X G g4,⟨_,rfl⟩⟩,O6 zz X G ∅,O6 zz X G ∅,O6 zz X G ∅,O6 zz X G ∅,O6 zz X G ∅,O6 zz X G ∅,O6 zz X G ∅,O6 zz X G ∅,O6 zz X G ∅,O6 zz X G ∅,O6 zz X G ∅,O6 zz X G ∅,O6 zz X G ∅,O6 zz X G ∅,O6 zz X G ∅,O6 zz X G ∅⟩;have F34:=Tv (st:=Ln) l34 c34 k34;have F35:=Tv (st:=Bb) l35 c35 k35;have b35:Binds K _ ["self","word","row"] []:=Jk F35 λ_ _ _ _ _ _ _ _ _=>rfl;have r_RULES:Jo l.prog w K mg D_RULES RULES_t0 RULES_t1 RULES_t2 RULES_t3 RULES_t4 RULES_t5 RULES_t6 RULES_t7:=⟨A1C X G aD_RULES,KD.of (vs:=[(Sum.inr "row",.ref RULES_t0),(Sum.inr "ask",.ref RULES_t1),(Sum.inr "last",.ref RULES_t2),(Sum.inr "first",.ref RULES_t3),(Sum.inr "above",.ref RULES_t4),(Sum.inr "beside",.ref RULES_t5),(Sum.inr "turned",.ref RULES_t6),(Sum.inr "called",.ref RULES_t7)]) sD_RULES lD_RULES ⟨rfl,rfl,rfl⟩ rfl (.cons (Eu (k:=Sum.inr "row") ⟨_,rfl⟩) rfl (.cons (Eu (k:=Sum.inr "ask") ⟨_,rfl⟩) rfl (.cons (Eu (k:=Sum.inr "last") ⟨_,rfl⟩) rfl (.cons (Eu (k:=Sum.inr "first") ⟨_,rfl⟩) rfl (.cons (Eu (k:=Sum.inr "above") ⟨_,rfl⟩) rfl (.cons (Eu (k:=Sum.inr "beside") ⟨_,rfl⟩) rfl (.cons (Eu (k:=Sum.inr "turned") ⟨_,rfl⟩) rfl (.cons (Eu (k:=Sum.inr "called") ⟨_,rfl⟩) rfl .nil)))))))) (λi e q h1 h2=>by rcases i with _ | _ | _ | _ | _ | _ | _ | _ | i<;>first | (cases h1;cases h2;rfl) | cases h1) (by show([Sum.inr "row",Sum.inr "ask",Sum.inr "last",Sum.inr "first",Sum.inr "above",Sum.inr "beside",Sum.inr "turned",Sum.inr "called"]:List Key).Nodup;decide +kernel) (.cons ⟨rfl,rfl⟩ (.cons ⟨rfl,rfl⟩ (.cons ⟨rfl,rfl⟩ (.cons ⟨rfl,rfl⟩ (.cons ⟨rfl,rfl⟩ (.cons ⟨rfl,rfl⟩ (.cons ⟨rfl,rfl⟩ (.cons ⟨rfl,rfl⟩ .nil)))))))),λH=>.inr ⟨_,_,_,l_RULES_t0,rfl,rfl,by rw[A11];exact A1O rfl,.nil,rfl⟩,λH=>.inr ⟨_,_,_,l_RULES_t1,rfl,rfl,by rw[A11];exact A1O rfl,(.cons ⟨_,rfl⟩ (.cons ⟨_,rfl⟩ (.cons ⟨_,rfl⟩ (.cons ⟨_,rfl⟩ .nil)))),rfl⟩,λH=>.inr ⟨_,_,_,l_RULES_t2,rfl,rfl,by rw[A11];exact A1O rfl,(.cons ⟨_,rfl⟩ .nil),rfl⟩,λH=>.inr ⟨_,_,_,l_RULES_t3,rfl,rfl,by rw[A11];exact A1O rfl,(.cons ⟨_,rfl⟩ .nil),rfl⟩,λH=>.inr ⟨_,_,_,l_RULES_t4,rfl,rfl,by rw[A11];exact A1O rfl,(.cons ⟨_,rfl⟩ (.cons ⟨_,rfl⟩ .nil)),rfl⟩,λH=>.inr ⟨_,_,_,l_RULES_t5,rfl,rfl,by rw[A11];exact A1O rfl,(.cons ⟨_,rfl⟩ (.cons ⟨_,rfl⟩ .nil)),rfl⟩,λH=>.inr ⟨_,_,_,l_RULES_t6,rfl,rfl,by rw[A11];exact A1O rfl,(.cons ⟨_,rfl⟩ .nil),rfl⟩,λH=>.inr ⟨_,_,_,l_RULES_t7,rfl,rfl,by rw[A11];exact A1O rfl,(.cons ⟨_,rfl⟩ (.cons ⟨_,rfl⟩ .nil)),rfl⟩⟩
 have x_HalfError:Cp K mg C_HalfError C_HalfError:=⟨xF.xc ex_HalfError cg ct,A1C X G aX_HalfError,⟨xF.xc ex_HalfError cg ct,xF.no ex_HalfError,xF.kp ex_HalfError,A1C X G aX_HalfError⟩⟩;have x_NoHalf:Kj K mg C_NoHalf C_HalfError:=⟨xF.xc ex_NoHalf cg ct,A1C X G aX_NoHalf,xF.mr ex_NoHalf,xF.n ex_NoHalf nofun,xF.n ex_NoHalf nofun⟩;have x_NoName:Hb K mg C_NoName C_HalfError:=⟨xF.xc ex_NoName cg ct,A1C X G aX_NoName,xF.mr ex_NoName,xF.n ex_NoName nofun⟩;have x_NoPaper:Ds K mg C_NoPaper C_HalfError:=⟨xF.xc ex_NoPaper cg ct,A1C X G aX_NoPaper,xF.mr ex_NoPaper,xF.n ex_NoPaper nofun,xF.n ex_NoPaper nofun⟩;have x_NoPlan:Km K mg C_NoPlan C_HalfError:=⟨xF.xc ex_NoPlan cg ct,A1C X G aX_NoPlan,xF.mr ex_NoPlan,xF.n ex_NoPlan nofun,xF.n ex_NoPlan nofun⟩;have x_NoBound:Jb K mg C_NoBound C_HalfError:=⟨xF.xc ex_NoBound cg ct,A1C X G aX_NoBound,xF.mr ex_NoBound,xF.n ex_NoBound nofun,xF.n ex_NoBound nofun⟩;refine⟨W.fnOf "law" "law" (Bo Ln) (Bc Ln) (A9 Ln) .none V34 E34 P34 N34 Q34 U34,λs v=>.of_eq rfl,λbase _ _=>?_⟩;have B7:Fnd l.prog w K mg base 1 "behind_each" ["half"] (Cc K):=j0.fnd X G (λF=>Cn F λ_ _ _ _ _ _ _=>rfl) λF m k b=>K7 F T;have Bi:Fnd l.prog w K mg base 1 "is_whole" ["thing"] (Dn K):=j2.fnd X G (λF=>Cn F λ_ _ _ _ _ _ _=>rfl) λF m k b=>Ot F T;have Dv:Fnd l.prog w K mg base 1 "is_tuple_of" ["thing","size"] (Df K):=j3.fnd X G (λF=>F4 F λ_ _ _ _ _ _ _ _=>rfl) λF m k b=>K9 F T;have Jm:Fnd l.prog w K mg base 1 "is_name" ["thing"] (Ey K):=j4.fnd X G (λF=>Cn F λ_ _ _ _ _ _ _=>rfl) λF m k b=>Ra F T;have F6:Fnd l.prog w K mg base 1 "is_saying" ["thing","names"] (Ej K):=j7.fnd X G (λF=>F4 F λ_ _ _ _ _ _ _ _=>rfl) λF m k b=>Nl F T;have Fo:Fnd l.prog w K mg base 1 "is_row_of" ["reach"] (Ea K):=j12.fnd X G (λF=>Cn F λ_ _ _ _ _ _ _=>rfl) λF m k b=>Mr F T;have Dg:Fnd l.prog w K mg base 1 "reach_turned" ["reach"] (Es K):=j13.fnd X G (λF=>Cn F λ_ _ _ _ _ _ _=>rfl) λ_ _ _ _=>FnOk.void λ_ _ _ _ h=>h;have Dh:Fnd l.prog w K mg base 1 "reach_called" ["reach","names"] (Ek K):=j14.fnd X G (λF=>F4 F λ_ _ _ _ _ _ _ _=>rfl) λ_ _ _ _=>FnOk.void λ_ _ _ _ h=>h;have G9:Fnd l.prog w K mg base 1 "refs_of" ["rule"] (Hi K):=j17.fnd X G (λF=>Cn F λ_ _ _ _ _ _ _=>rfl) λF m k b=>R9 F T r_RULES;have Hh:Fnd l.prog w K mg base 1 "fits_ask" ["reach","rule","spoken"] (Iq K):=j18.fnd X G (λF=>Jk F λ_ _ _ _ _ _ _ _ _=>rfl) λ_ _ _ _=>FnOk.void λ_ _ _ _ h=>h;have F7:Fnd l.prog w K mg base 1 "fits_ends" ["reach","rule","spoken"] (Ht K):=j19.fnd X G (λF=>Jk F λ_ _ _ _ _ _ _ _ _=>rfl) λ_ _ _ _=>FnOk.void λ_ _ _ _ h=>h;have Dy:Fnd l.prog w K mg base 1 "fits_joined" ["reach","rule","spoken"] (F1 K):=j20.fnd X G (λF=>Jk F λ_ _ _ _ _ _ _ _ _=>rfl) λ_ _ _ _=>FnOk.void λ_ _ _ _ h=>h;have Jv:Fnd l.prog w K mg base 1 "choices" ["many","some"] (Kl K):=j22.fnd X G (λF=>F4 F λ_ _ _ _ _ _ _ _=>rfl) λ_ _ _ _=>FnOk.void λ_ _ _ _ h=>h;have Fe:Fnd l.prog w K mg base 1 "_law_feed" ["_law_script"] (Ec K):=j28.fnd X G (λF=>Cn F λ_ _ _ _ _ _ _=>rfl) λF m k b=>Nd F T;have Aj:Fnd l.prog w K mg base 1 "_law_draw" ["_law_feed_here","_law_many"] (C1 K):=j29.fnd X G (λF=>F4 F λ_ _ _ _ _ _ _ _=>rfl) λF m k b=>N6 F T;have Br:Mkx l.prog w K mg base 1 C_NoPaper "NoPaper" ["self","word","row"] (spX C_NoPaper ["word","row"]):=⟨_,_,Jz F35 T x_HalfError x_NoPaper,x_NoPaper.xc,a35,i35,xF.kp ex_NoPaper,A1C X G aX_NoPaper,b35⟩;have O9:Fnd l.prog w K mg base 2 "alike" ["one","other"] (La K):=j1.fnd X G (λF=>F4 F λ_ _ _ _ _ _ _ _=>rfl) λF m k b=>Vg F T B7;have Au:Fnd l.prog w K mg base 2 "are_unlike_names" ["thing"] (B8 K):=j5.fnd X G (λF=>Cn F λ_ _ _ _ _ _ _=>rfl) λF m k b=>F9 F T Jm;have Bm:Fnd l.prog w K mg base 2 "first_wrong_saying" ["tale"] (Be K):=j9.fnd X G (λF=>Cn F λ_ _ _ _ _ _ _=>rfl) λF m k b=>Eh F T F6;have Dw:Fnd l.prog w K mg base 2 "fits_rule" ["reach","rule","spoken"] (Ee K):=j21.fnd X G (λF=>Jk F λ_ _ _ _ _ _ _ _ _=>rfl) λF m k b=>M8 F T Fo Dg Dh Hh F7 Dy;have D6:Fnd l.prog w K mg base 2 "number_due" ["reach","rule","spoken","numbers"] (Du K):=j23.fnd X G (λF=>Yh F λ_ _ _ _ _ _ _ _ _ _=>rfl) λF m k b=>L1 F T Jv;have Dc:Fnd l.prog w K mg base 2 "is_row_frame" ["thing"] (D0 K):=j24.fnd X G (λF=>Cn F λ_ _ _ _ _ _ _=>rfl) λF m k b=>Ju F T Bi Dv;have D3:Fnd l.prog w K mg base 2 "_law_shuffled" ["_law_feed_here","_law_some"] (Cj K):=j30.fnd X G (λF=>F4 F λ_ _ _ _ _ _ _ _=>rfl) λF m k b=>Ib F T Aj;have Er:Fnd l.prog w K mg base 2 "_law_amiss" ["_law_feed_here","_law_row","_law_many"] (Do K):=j33.fnd X G (λF=>Jk F λ_ _ _ _ _ _ _ _ _=>rfl) λF m k b=>Lm F T Aj;have Cg:Fnd l.prog w K mg base 3 "are_tale_names" ["thing"] (Bh K):=j6.fnd X G (λF=>Cn F λ_ _ _ _ _ _ _=>rfl) λF m k b=>Hk F T Au;have Fg:Fnd l.prog w K mg base 3 "fits_kind" ["kind","thing","reach"] (Eg K):=j15.fnd X G (λF=>Jk F λ_ _ _ _ _ _ _ _ _=>rfl) λF m k b=>Nm F T Bi Au;have Ei:Fnd l.prog w K mg base 3 "_law_names" ["_law_feed_here"] (Dx K):=j31.fnd X G (λF=>Cn F λ_ _ _ _ _ _ _=>rfl) λF m k b=>M1 F T Aj D3;have Cv:Fnd l.prog w K mg base 4 "is_tale_frame" ["thing"] (Ci K):=j8.fnd X G (λF=>Cn F λ_ _ _ _ _ _ _=>rfl) λF m k b=>Ia F T Cg;have Ge:Fnd l.prog w K mg base 4 "is_rule" ["thing","reach"] (Gi K):=j16.fnd X G (λF=>F4 F λ_ _ _ _ _ _ _ _=>rfl) λF m k b=>Qw F T r_RULES Fg;have Jr:Fnd l.prog w K mg base 5 "is_tale" ["thing"] (Gn K):=j10.fnd X G (λF=>Cn F λ_ _ _ _ _ _ _=>rfl) λF m k b=>R5 F T Cv Bm;have Gz:Fnd l.prog w K mg base 5 "word_due" ["rows","row","reach","reaches"] (F8 K):=j25.fnd X G (λF=>Yh F λ_ _ _ _ _ _ _ _ _ _=>rfl) λF m k b=>Oc F T Ge G9 Dw D6;have Hn:Fnd l.prog w K mg base 6 "reach_of" ["thing"] (Fn K):=j11.fnd X G (λF=>Cn F λ_ _ _ _ _ _ _=>rfl) λF m k b=>Ov F T B7 Jr;have B6:Fnd l.prog w K mg base 7 "rows_fault" ["rows"] (Cr K):=j26.fnd X G (λF=>Cn F λ_ _ _ _ _ _ _=>rfl) λF m k b=>Lu F T Hn Dc Gz;have Ef:ak3 l.prog w K mg base 8 "lets_count" ["half","paper"] (Di C_NoPaper K):=j27.fnd1 X G (λF=>F4 F λ_ _ _ _ _ _ _ _=>rfl) λF m k b=>K4 F T x_HalfError x_NoName x_NoPaper O9 B6 Br;have C9:Fnd l.prog w K mg base 9 "_law_told" ["_law_half","_law_paper"] (Et K):=j32.fnd X G (λF=>F4 F λ_ _ _ _ _ _ _ _=>rfl) λF m k b=>Ml F T x_HalfError x_NoHalf x_NoName x_NoPaper x_NoPlan x_NoBound ndX Ef;exact ab5 F34 T B6 Fe Aj Ei C9 Er
theorem walk {l:W.OpenLaw}{q:Program}{loose:List Str}{XP:(Str->Option Value)->Heap->Prop}{YP:World->Heap->Prop}{d:DefRec}{K:Params->W.Frag}(hn:l.most=some 63)(hdf:d.params.defaults=[])
  (hY:∀(w:World) (h:Heap),YP w h->(K w.params).In h)
  (F:∀(w:World) (mg:Str->Option Value) (fa:Addr) (h:Heap),(K w.params).In h->h.Ns mainGlobals mg->mg d.name=some (.ref fa) ->
   ∃ fd:FuncData,(∀(s:Shared) (u:Value),BindsTo s fd ⟨[u],[]⟩ [("_law_script",u)])/\∀ base:Heap,(K w.params).In base->base.Ns mainGlobals mg->FnOk l.prog w (K w.params) mg base CX0 10 fa fd ["_law_script"] (spLaw (K w.params))) :
  W.WalkO q loose XP YP l.row.toRowW d [] (λf vs=>PySem.call f vs):=
 L2.walk_of (n:=63) (k:=10) (x:="_law_script") (CX:=λ_=>CX0) (sp:=λw=>spLaw (K w.params)) hn nofun hdf ⟨rfl,by decide,by decide,rfl⟩ hY F (λ_ _ a ns hl _ hS=>⟨a,ns,rfl,hS,hl,λ_=>rfl⟩) λ_ _ _ _ _ z=>z
end K50
theorem PySem.W.Fast.tw9604359891432538653 : True := trivial
theorem PySem.W.Fast.tw8358747887623148746 : True := trivial
theorem PySem.W.Fast.tw3550290647867415915 : True := trivial
theorem PySem.W.Fast.tw15352983599094661388 : True := trivial
theorem PySem.W.Fast.tw8308253314054298127 : True := trivial
theorem PySem.W.Fast.tw13170777395491391274 : True := trivial
theorem PySem.W.Fast.tw11514292867861706853 : True := trivial
theorem PySem.W.Fast.tw6955691818114616355 : True := trivial
theorem PySem.W.Fast.tw11188911503920922004 : True := trivial
theorem PySem.W.Fast.tw844698494429024634 : True := trivial
theorem PySem.W.Fast.tw7631766196278835752 : True := trivial
theorem PySem.W.Fast.tw12239964816995474061 : True := trivial
theorem PySem.W.Fast.tw13845051878949944040 : True := trivial
theorem PySem.W.Fast.tw16253986473457915934 : True := trivial
theorem PySem.W.Fast.tw4535184300280204215 : True := trivial
theorem PySem.W.Fast.tw10079339043153454889 : True := trivial
theorem PySem.W.Fast.tw11310898746920920219 : True := trivial
theorem PySem.W.Fast.tw14851294538649564330 : True := trivial
theorem PySem.W.Fast.tw2745724444034677604 : True := trivial
theorem PySem.W.Fast.tw8811711013582328430 : True := trivial
theorem PySem.W.Fast.tw12106318195370223117 : True := trivial
theorem PySem.W.Fast.tw4314647501486225684 : True := trivial
theorem PySem.W.Fast.tw8239637609219938264 : True := trivial
theorem PySem.W.Fast.tw10614098762052903560 : True := trivial
theorem PySem.W.Fast.tw10436225194267575507 : True := trivial
theorem PySem.W.Fast.tw17752938850559901314 : True := trivial
theorem PySem.W.Fast.tw7670066607034037714 : True := trivial
theorem PySem.W.Fast.tw2172426116976937211 : True := trivial
theorem PySem.W.Fast.tw3868602195914442146 : True := trivial
theorem PySem.W.Fast.tw8268397836000950644 : True := trivial
theorem PySem.W.Fast.tw7431400531476078604 : True := trivial
theorem PySem.W.Fast.tw8789804520979634075 : True := trivial
theorem PySem.W.Fast.tw4227402908946282227 : True := trivial
theorem PySem.W.Fast.tw6887943139693853774 : True := trivial
theorem PySem.W.Fast.tw1017069119742747454 : True := trivial
theorem PySem.W.Fast.tw11653366131510878229 : True := trivial
theorem PySem.W.Fast.tw10353726620609349630 : True := trivial
theorem PySem.W.Fast.tw10669606091140048025 : True := trivial
theorem PySem.W.Fast.tw6077074967447008991 : True := trivial
theorem PySem.W.Fast.tw7402816604473418853 : True := trivial
theorem PySem.W.Fast.tw17182351539079354431 : True := trivial
theorem PySem.W.Fast.tw15588661613141673556 : True := trivial
theorem PySem.W.Fast.tw6711571524464523430 : True := trivial
theorem PySem.W.Fast.tw6697492076472613903 : True := trivial
theorem PySem.W.Fast.tw1319507557822300034 : True := trivial
theorem PySem.W.Fast.tw2974111744611724745 : True := trivial
theorem PySem.W.Fast.tw792041933044492941 : True := trivial
theorem PySem.W.Fast.tw11507977169713932412 : True := trivial
theorem PySem.W.Fast.tw12139781739332872795 : True := trivial
theorem PySem.W.Fast.tw346085611686445821 : True := trivial
theorem PySem.W.Fast.tw16657333626918261107 : True := trivial
theorem PySem.W.Fast.tw7798838896395589202 : True := trivial
theorem PySem.W.Fast.tw9279850705184194913 : True := trivial
theorem PySem.W.Fast.tw13140729201105028881 : True := trivial
theorem PySem.W.Fast.tw15229549729822856514 : True := trivial
theorem PySem.W.Fast.tw6301706968318808238 : True := trivial
theorem PySem.W.Fast.tw16797117584444353603 : True := trivial
theorem PySem.W.Fast.tw493103263617991542 : True := trivial
theorem PySem.W.Fast.tw6340677869817530636 : True := trivial
theorem PySem.W.Fast.tw4670774484956337558 : True := trivial
theorem PySem.W.Fast.tw5863219437611613406 : True := trivial
theorem PySem.W.Fast.tw16636671305426885217 : True := trivial
theorem PySem.W.Fast.tw14143304423418311229 : True := trivial
theorem PySem.W.Fast.tw17307675588802304633 : True := trivial
theorem PySem.W.Fast.tw13777346161009029962 : True := trivial
theorem PySem.W.Fast.tw17592109105155882079 : True := trivial
theorem PySem.W.Fast.tw13948643468971887567 : True := trivial
theorem PySem.W.Fast.tw8746912180386812237 : True := trivial
theorem PySem.W.Fast.tw726573462408413951 : True := trivial
theorem PySem.W.Fast.tw18408175884792391935 : True := trivial
theorem PySem.W.Fast.tw12818628577925093247 : True := trivial
theorem PySem.W.Fast.tw16753546493772838079 : True := trivial
theorem PySem.W.Fast.tw17853104274325142516 : True := trivial
theorem PySem.W.Fast.tw3362061110734169642 : True := trivial
theorem PySem.W.Fast.tw15821502294474720096 : True := trivial
theorem PySem.W.Fast.tw7526845047425979501 : True := trivial
theorem PySem.W.Fast.tw9513884810097708095 : True := trivial
theorem PySem.W.Fast.tw3206719770534188462 : True := trivial
theorem PySem.W.Fast.tw1566168481682503290 : True := trivial
theorem PySem.W.Fast.tw8962858014097709813 : True := trivial
open PySem PySem.W PyProof.Rows
set_option maxRecDepth 100000 in
set_option maxHeartbeats 0 in
theorem PySem.Challenge.cw_halforder_k50_papers_of_many_rows_holds : PySem.Challenge.rw_halforder_k50_papers_of_many_rows.Holds := by
 w_on;o_law;k_head;(case hw=>w_witness2)
 k_fill
 refine K50.walk (l:=PySem.Challenge.rw_halforder_k50_papers_of_many_rows) rfl rfl (λw h Y=>PySem.W.kIn_of Y) ?F
 case F=>
  intro w mg fa h KX G hmg;refine' K50.all_mk KX G hmg ..
  any_goals first | k_is | exact L2.fk_mk (by k_is) (by k_is) (by k_is) (by k_is)
  any_goals rfl
  any_goals kernel_rfl
  any_goals decide
