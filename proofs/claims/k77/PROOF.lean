import PyProof.Rows.All
import Wide.All
import OpenK.AllK
import Wide.FinOn
import PyProof.EqAt
import PyProof.EqKinds
import PyProof.TupleCall
import Lean
import PyProof.DictWalks
import PyProof.DictIter
import PyProof.P3In
import KE.KEqSeq
import PyProof.ReprLen
import PyProof.ReprRoads
import PyProof.StrOps2
import KE.KRevSl
import PyProof.IsRules
import PyProof.StrLawsIdx
import PyProof.Rows.RegRepr
import PyProof.Rows.RegFStrParts
import PyProof.DictUpdate
import PyProof.AttrMissHeap
import PyProof.Walks
import KE.KDictOf
import PyProof.EnumIter
import PyProof.EnumFor
import PyProof.LayNew
import PyProof.EnumMake
import PyProof.Draws
import PyProof.WalksT
import PyProof.TupleIter
import PyProof.WalksMore
import KE.KRevIter
import KE.KEqDict
import PyProof.Rows.SetFrom
import PyProof.StrLawsTight
import PyProof.StrLawsChain
import PyProof.SumWalk
import PyProof.Rows.SortStr
import PyProof.Rows.SortWalk
import PyProof.TupleOfSeq
import KE.KDictSum
import KE.KSortTup
import PyProof.ListRange
import PyProof.ZipIter
import PyProof.Rows.ZipGen
import KE.KItemsList
import PyProof.ExcArgsOwn
import PyProof.InstStoreFacts
import PyProof.ExcBaseAll.ValueError
import PyProof.StationsW
import PyProof.RulesAs
import PyProof.RulesDel
import PyProof.NeKinds
import PyProof.ListMulAny
import KE.KMinBuiltin
import PyProof.Rows.CallKwBuiltin
import PySem.Challenge.RW_halforder_k77_two_keepers_by_turns
local macro_rules | `(tactic| eq_refl) => `(tactic| with_unfolding_all exact Or.inl rfl)
local macro_rules | `(tactic| ac_rfl) => `(tactic| with_unfolding_all exact fun _ _ => rfl)
local macro_rules | `(tactic| ac_nf) => `(tactic| with_unfolding_all rfl)
noncomputable section
local macro_rules | `(⋯) => `(by ac_nf)
local macro_rules | `(∅) => `(by decide)
local macro_rules | `(nofun) => `(by simp)
local macro_rules | `(tactic| symm) => `(tactic| walk_at "rd")
def A00:=@List.length_map
def A01:=@PySem.wpAny_bind
def A02:=@PySem.Heap.get?_push_of_some
def A03:=@List.getElem?_eq_some_iff
def A04:=@List.mem_of_getElem?
def A05:=@PySem.W.mg_of
def A06:=@PySem.wpAny_pure
def A07:=@Nat.le_refl
def A08:=@List.getElem?_eq_getElem
def A09:=@PySem.Heap.lt_size
def A0A:=@List.getElem?_map
def A0B:=@List.mem_append
def A0C:=@List.mem_cons_of_mem
def A0D:=@Bool.false_ne_true
def A0E:=@PySem.Heap.get?_push_size
def A0F:=@PySem.F.plainAttrs_list
def A0G:=@List.map_append
def A0H:=@List.length_append
def A0I:=@List.mem_map
def A0J:=@Nat.ne_of_lt
def A0K:=@List.mem_cons
def A0L:=@Nat.le_trans
def A0M:=@List.mem_append_right
def A0N:=@List.size_toArray
def A0O:=@PySem.F.slot_list_append
def A0P:=@PySem.F.type_list_append
def A0Q:=@decide_eq_false
def A0R:=@Option.some.inj
def A0S:=@decide_eq_true
def A0T:=@List.mem_append_left
def A0U:=@Nat.lt_of_lt_of_le
def A0V:=@List.mem_cons_self
def A0W:=@beq_eq_false_iff_ne
def A0X:=@List.map_cons
def A0Y:=@if_neg
def A0Z:=@List.length_cons
def A10:=@PySem.W.mg_none_of
def A11:=@if_pos
def A12:=@List.take_add_one
def A13:=@List.nodup_cons
def A14:=@PySem.sizeLine_eq
def A15:=@List.mem_singleton
def A16:=@List.length_take
def A17:=@List.take_length
def A18:=@List.length_singleton
def A19:=@Bool.and_eq_true
def A1A:=@PySem.W.kia_one
def A1B:=@List.getElem?_append_left
def A1C:=@PySem.PassesOwn.never
def A1D:=@List.lookup_cons
def A1E:=@PySem.Heap.get?_update_other
def A1F:=@PySem.wpAny_holding
def A1G:=@True.intro
def A1H:=@PySem.wpAny_Call_Name_kw
def A1I:=@List.length_eq_zero_iff
def A1J:=@List.contains_cons
def A1K:=@List.map_map
def A1L:=@Option.map_eq_some_iff
def A1M:=@beq_iff_eq
def A1N:=@List.length_replicate
def A1O:=@PySem.wpAny_mono
def A1P:=@List.any_eq_true
def A1Q:=@beq_self_eq_true
def A1R:=@List.getElem?_set_ne
def A1S:=@PySem.Heap.size_push
def A1T:=@PyProof.Rows.callWith_type1
def A1U:=@Array.getElem?_eq_some_iff
def A1V:=@List.getElem_inj
def A1W:=@List.all_eq_true
def A1X:=@PySem.Heap.get?_update_self
def A1Y:=@List.length_filter_le
def A1Z:=@PySem.F.slot_dict_get
def A20:=@Nat.le_succ
def A21:=@List.mem_filter
def A22:=@PyProof.Rows.slot_tuple_getitem
def A23:=@PySem.wpAny_newObj_type
def A24:=@PySem.wpAny_loadPart_at
def A25:=@Nat.le_of_lt
def A26:=@Nat.lt_irrefl
def A27:=@PySem.mem_of_lookup
def A28:=@PySem.wpAny_field
def A29:=@List.replicate_succ
def A2A:=@PySem.F.plainAttrs_dict
def A2B:=@List.getElem_of_mem
def A2C:=@PySem.Calls.callWith_builtin
def A2D:=@PySem.Calls.spliced_cons
def A2E:=@PySem.W.callWith_K
def A2F:=@PySem.tupleKind_room_in1
def A2G:=@PySem.W.tail_of_in
def A2H:=@PySem.wpAny_passesOwn
def A2I:=@List.append_nil
def A2J:=@PySem.Obj.isFreed_of_fields
def A2K:=@PySem.F.slot_list_pop
def A2L:=@PySem.F.type_list_pop
def A2M:=@PySem.Paired.length
def A2N:=@PySem.wpAny_truthy_bool
def A2O:=@List.any_cons
def A2P:=@List.nodup_append
def A2Q:=@Nat.lt_succ_of_lt
def A2R:=@List.filter_congr
def A2S:=@List.getElem?_append_right
def A2T:=@PySem.W.looks_findIn
def A2U:=@List.length_drop
def A2V:=@List.map_congr_left
def A2W:=@PySem.codeAny_mono
def A2X:=@PySem.call_meetsIn
def A2Y:=@List.of_mem_zip
def A2Z:=@PySem.wpAny_callSpecial?_slot
def A30:=@PySem.wpAny_getItem_str_slice
def A31:=@PySem.wpAny_pyIter_tuple
def A32:=@PySem.Obj.data_mapFields
def A33:=@Int.emod_lt_of_pos
def A34:=@List.getElem?_set_self
def A35:=@PySem.F.entry_dict_get
def A36:=@PySem.W.ke_shaped_ints
def A37:=@PySem.Calls.spliced_nil
def A38:=@List.mem_range
def A39:=@Array.getElem?_toList
def A3A:=@Nat.lt_succ_self
def A3B:=@Nat.min_le_right
def A3C:=@PySem.wpAny_call_entry
def A3D:=@PySem.Calls.evalArgs_plain
def A3E:=@List.mem_of_mem_take
def A3F:=@PySem.Around.under_plainId
def A3G:=@PySem.wpAny_call
def A3H:=@Bool.eq_iff_iff
def A3I:=@PySem.W.looks_clsIn
def A3J:=@Nat.zero_le
def A3K:=@PySem.codeAny_builtin
def A3L:=@Int.emod_nonneg
def A3M:=@List.getD_eq_getElem?_getD
def A3N:=@Nat.ne_of_gt
def A3O:=@List.lookup_append
def A3P:=@List.filter_append
def A3Q:=@Bool.or_true
def A3R:=@Bool.true_or
def A3S:=@PySem.W.kitx_list
def A3T:=@PySem.F.args_tuple_add_2
def A3U:=@List.flatten_cons
def A3V:=@PySem.call_meets
def A3W:=@PySem.wpAny_pyIter_list
def A3X:=@PySem.wpAny_standAt
def A3Y:=@List.getElem?_replicate
def A3Z:=@PySem.F.entry_tuple_add
def A40:=@List.sum_cons
def A41:=@Int.eq_ofNat_of_zero_le
def A42:=@PySem.W.any_some
def A43:=@List.filter_cons
def A44:=@Option.bind_some
def A45:=@PySem.W.cellsFrom_some
def A46:=@PySem.F.slot_tuple_add
def A47:=@List.take_of_length_le
def A48:=@PySem.wpAny_execs_nil
def A49:=@PySem.wpAny_typeOf
def A4A:=@List.foldl_cons
def A4B:=@Option.map_some
def A4C:=@PySem.post_val_or_str
def A4D:=@List.getElem?_toArray
def A4E:=@List.mem_iff_getElem?
def A4F:=@PySem.codeAny_call_builtin
def A4G:=@Nat.pow_le_pow_right
def A4H:=@PySem.wpAny_loadPart
def A4I:=@PySem.wpAny_setField
def A4J:=@PySem.W.plainGet_of
def A4K:=@Array.length_toList
def A4L:=@Int.toNat_of_nonneg
def A4M:=@List.filter_sublist
def A4N:=@PySem.wpAny_isSubtype_exc
def A4O:=@PySem.W.looks_mroIn
def A4P:=@PySem.PyData.shown_int_le
def A4Q:=@PySem.W.Looks.here
def A4R:=@PySem.W.kitx_tuple
def A4S:=@Bool.false_or
def A4T:=@Nat.lt_of_le_of_lt
def A4U:=@PySem.Code.quiet_builtin
def A4V:=@Int.natAbs_natCast
def A4W:=@PySem.Value.ref.inj
set_option linter.all false
set_option maxRecDepth 100000
set_option maxHeartbeats 4000000
set_option Elab.async false
set_option compiler.extract_closed false
namespace L2
open PySem PySem.Spec PyProof.Rows
abbrev Key:=Sum Int Str
def Pj:Key->Value->Bool
 | .inl k,v=>Value.isInt k v
 | .inr x,v=>Value.isStrOf x v
def keyH (w:World):Key->Int
 | .inl k=>hashInt k
 | .inr x=>hashStr w x
theorem Bp:∀ {k:Key} {v:Value},Pj k v=true->(∃ i t,k=Sum.inl i/\v=Value.int i t)\/(∃ x t,k=Sum.inr x/\v=Value.str x t)
 | .inl i,v,h=>by
   obtain⟨t,e⟩:=Value.isInt_shape (k:=i) (v:=v) h
   exact .inl ⟨i,t,rfl,e⟩
 | .inr x,v,h=>by
   obtain⟨t,e⟩:=Value.isStrOf_shape (x:=x) (v:=v) h
   exact .inr ⟨x,t,rfl,e⟩
theorem a66 (i:Int)(t:Tok):Pj (.inl i) (.int i t)=true:=by simp[Pj,Value.isInt]
theorem Z4 (x:Str)(t:Tok):Pj (.inr x) (.str x t)=true:=by simp[Pj,Value.isStrOf]
theorem ay2 (a b:Int):decide ((Sum.inl a:Key)=Sum.inl b)=(a==b):=by
 by_cases e:a=b
 . subst e;simp
 have h:¬ (Sum.inl a:Key)=Sum.inl b:=λq=>e (Sum.inl.inj q)
 rw[A0Q h]
 exact(A0W.mpr e).symm
theorem aw9 (a b:Str):decide ((Sum.inr a:Key)=Sum.inr b)=decide (a=b):=by
 by_cases e:a=b
 . subst e;simp
 have h:¬ (Sum.inr a:Key)=Sum.inr b:=λq=>e (Sum.inr.inj q)
 rw[A0Q h,A0Q e]
theorem aC4 (a:Int)(b:Str):decide ((Sum.inl a:Key)=Sum.inr b)=false:=A0Q (λq=>nomatch q)
theorem av5 (a:Str)(b:Int):decide ((Sum.inr a:Key)=Sum.inl b)=false:=A0Q (λq=>nomatch q)
def Ar (prog:Program)(w:World):PySem.KeyKind prog w Key where
 is:=Pj
 hash:=keyH w
 inj:=λv a b ha hb=>by
  rcases Bp ha with ⟨i,t,rfl,rfl⟩ | ⟨x,t,rfl,rfl⟩
  . rcases Bp hb with ⟨j,u,rfl,e⟩ | ⟨y,u,rfl,e⟩
    . injection e with e1 _;rw[e1]
    exact nomatch e
  rcases Bp hb with ⟨j,u,rfl,e⟩ | ⟨y,u,rfl,e⟩
  . exact nomatch e
  injection e with e1 _;rw[e1]
 byValue:=λk v h=>by
  rcases Bp h with ⟨i,t,rfl,rfl⟩ | ⟨x,t,rfl,rfl⟩<;>rfl
 pyHash:=λhv h=>by
  rcases Bp hv with ⟨i,t,rfl,rfl⟩ | ⟨x,t,rfl,rfl⟩
  . exact wpAny_pyHash_int h
  exact wpAny_pyHash_str h
 eqBool:=λhu hv h=>by
  rcases Bp hu with ⟨i,t,rfl,rfl⟩ | ⟨x,t,rfl,rfl⟩
  . rcases Bp hv with ⟨j,u,rfl,rfl⟩ | ⟨y,u,rfl,rfl⟩
    . rw[ay2] at h;exact wpAny_eqBool_int h
    rw[aC4] at h;exact SeqAt.EqAt.int_str i t y u _ _ _ _ h
  rcases Bp hv with ⟨j,u,rfl,rfl⟩ | ⟨y,u,rfl,rfl⟩
  . rw[av5] at h;exact SeqAt.EqAt.str_int x t j u _ _ _ _ h
  rw[aw9] at h;exact wpAny_eqBool_str h
 «strs»:=λk x t v h=>by
  rcases Bp h with ⟨i,u,rfl,e⟩ | ⟨y,u,rfl,e⟩
  . exact nomatch e
  injection e with e1 _
  subst e1
  cases v<;>rfl
theorem Up (prog:Program)(w:World)(i:Int)(t:Tok):(Ar prog w).is (.inl i) (.int i t)=true:=a66 i t
theorem Uj (prog:Program)(w:World)(x:Str)(t:Tok):(Ar prog w).is (.inr x) (.str x t)=true:=Z4 x t
inductive V where
 | non | bl (b:Bool) | int (i:Int) | str (x:Str) | byt (b:Array UInt8) | flt (b:UInt64) | ref (a:Addr) | ty (n:String)
 deriving DecidableEq
def RelV:V->Value->Prop
 | .non,u=>u=Value.none
 | .bl b,u=>u=Value.bool b
 | .int i,u=>∃ t,u=Value.int i t
 | .str x,u=>∃ t,u=Value.str x t
 | .byt b,u=>∃ t,u=Value.bytes b t
 | .flt b,u=>∃ t,u=Value.float b t
 | .ref a,u=>u=Value.ref a
 | .ty n,u=>u=Value.type n
abbrev Vals:List V->List Value->Prop:=Paired RelV
theorem Vals.length {xs:List V} {us:List Value} (r:Vals xs us):xs.length=us.length:=A2M r
theorem Vals.get:∀ {xs:List V} {us:List Value} {i:Nat} {x:V},Vals xs us->xs[i]? = some x->∃ u,us[i]? = some u/\RelV x u
 | _,_,_,_,.nil,e=>by simp at e
 | _,_,0,_,.cons r _,e=>by simp at e;subst e;exact⟨_,rfl,r⟩
 | _,_,i+1,x,.cons _ t,e=>by
   obtain⟨u,h1,h2⟩:=Vals.get (i:=i) (x:=x) t (by simpa using e)
   exact⟨u,by simpa using h1,h2⟩
theorem Vals.set {x:V}{u:Value}(r:RelV x u):∀ {xs:List V} {us:List Value} (i:Nat),Vals xs us->Vals (xs.set i x) (us.set i u)
 | _,_,_,.nil=>.nil
 | _,_,0,.cons _ t=>.cons r t
 | _,_,i+1,.cons q t=>.cons q (Vals.set r i t)
theorem Vals.append:∀ {xs ys:List V} {us ws:List Value},Vals xs us->Vals ys ws->Vals (xs++ys) (us++ws)
 | _,_,_,_,.nil,s=>s
 | _,_,_,_,.cons r t,s=>.cons r (Vals.append t s)
theorem Vals.take:∀ {xs:List V} {us:List Value} (n:Nat),Vals xs us->Vals (xs.take n) (us.take n)
 | _,_,0,_=>.nil
 | _,_,_+1,.nil=>.nil
 | _,_,n+1,.cons r t=>.cons r (Vals.take n t)
theorem Vals.drop:∀ {xs:List V} {us:List Value} (n:Nat),Vals xs us->Vals (xs.drop n) (us.drop n)
 | _,_,0,r=>r
 | _,_,_+1,.nil=>.nil
 | _,_,n+1,.cons _ t=>Vals.drop n t
def RelO:Option V->Option Value->Prop
 | some v,some u=>RelV v u
 | none,none=>True
 | _,_=>False
def KV {κ:Type}:List (κ×V)->List (κ×Value)->Prop:=Paired λ(p:κ×V) (q:κ×Value)=>p.1=q.1/\RelV p.2 q.2
def kV:Key->V
 | .inl i=>.int i
 | .inr x=>.str x
def IsTupN (h:Heap)(a:Addr)(items:Array Value):Prop:=∃ o,h.get? a=some o/\o.cls = .type "tuple" /\ (∃ n,o.data = .seq items n)/\o.dict=none
theorem IsTupN.tup {h:Heap}{a:Addr}{items:Array Value}(x:IsTupN h a items):IsTup h a items:=let ⟨o,h1,h2,⟨n,h3⟩,_⟩:=x;⟨o,h1,h2,n,h3⟩
theorem IsTupN.new (h:Heap)(its:Array Value):IsTupN (h.push { cls:=.type "tuple",data:=.seq its }) h.objs.size its:=⟨_,A0E _ rfl,rfl,⟨_,rfl⟩,rfl⟩
inductive HO where
 | lst (xs:List V)
 | tup (xs:List V)
 | dK (kvs:List (Key×V)) | dT (kvs:List (List Key×V))
 | set (S:Int->Bool) (n:Nat)
 | ins (C dx:Addr) (fs:List (Str×V))
 | own (x:Addr)
 | xd (fs:List (Str×V))
 | met (f x:Addr)
 | rng (lo hi:Int)
 | frz (o:Obj) (u:HO)
 | tbl (ps:Array Value)
 | ext (φ:Heap->Prop)
abbrev Hp:=Addr->Option HO
def upd (H:Hp)(a:Addr)(o:HO):Hp:=λb=>if b=a then some o else H b
theorem Ad {H:Hp}{a:Addr}{o:HO}:upd H a o a=some o:=by unfold upd;rw[if_pos rfl]
theorem Au {H:Hp}{a b:Addr}{o:HO}(h:b≠a):upd H a o b=H b:=by unfold upd;rw[if_neg h]
theorem ne_of {H:Hp}{a b:Addr}{o u:HO}(h:H a=some o)(h':H b=some u)(d:o≠u):a≠b:=by
 intro e;subst e;rw[h] at h';exact d (A0R h')
theorem ne_of_none {H:Hp}{a b:Addr}{o:HO}(h:H a=some o)(h':H b=none):a≠b:=by
 intro e;subst e;rw[h] at h';cases h'
section
variable (P:Program)(w:World)
def ObjOk (H:Hp)(h:Heap)(a:Addr):HO->Prop
 | .lst xs=>xs.length<=sizeLine/\∃(its:List Value) (n:Nat),Vals xs its/\h.get? a=some { cls:=.type "list",data:=.seq its.toArray n }
 | .tup xs=>xs.length<=sizeLine/\∃ its:List Value,Vals xs its/\IsTupN h a its.toArray
 | .dK kvs=>kvs.length<=sizeLine/\(a==sysModules)=false/\∃ vs,KV kvs vs/\h.DictOf (Ar P w) a vs
 | .dT kvs=>kvs.length<=sizeLine/\(a==sysModules)=false/\∃ xs:List (List Key×Addr×Value),
   Paired (λ(p:List Key×V) (q:List Key×Addr×Value)=>p.1=q.1/\H q.2.1=some (.tup (p.1.map kV))/\RelV p.2 q.2.2) kvs xs /\
   ∃ o es ep,h.get? a=some o/\o.ExactDict/\o.data = .dict es ep/\es.toList=xs.map (entryOfKey (tupleKind (Ar P w)))/\(xs.map (·.1)).Nodup
 | .set S n=>h.SetOf (intKind P w) a S n
 | .ins C dx fs=>H dx=some (.own a)/\fs.length<=1000/\dx≠a/\h.get? a=some (PySem.W.instObj C dx) /\
   ∃ mA,h.Ns1 dx mA/\(∀ f,RelO (fs.lookup f) (mA f))/\PySem.Within mA (fs.map (·.1))
 | .own _=>∃ o,h.get? a=some o
 | .xd fs=>∃ mA,h.Ns1 a mA/\∀ f,RelO (fs.lookup f) (mA f)
 | .rng lo hi=>∃ t u v,h.get? a=some { cls:=.type "range",data:=.fields #[.int lo t,.int hi u,.int 1 v] }
 | .frz o u=>h.get? a=some o/\ObjOk H h a u
 | .tbl ps=>h.get? a=some { cls:=.none,data:=.fields ps }
 | .met f x=>h.get? a=some (PySem.W.methodObj (.ref f) (.ref x))
 | .ext φ=>φ h/\(∃ o,h.get? a=some o)/\∀ h1 h2:Heap,φ h1->(∀ o,h1.get? a=some o->h2.get? a=some o)->φ h2
def HOk (H:Hp)(h:Heap):Prop:=∀ a o,H a=some o->ObjOk P w H h a o
end
section
variable {P:Program}{w:World}{H H':Hp}{h h':Heap}{a:Addr}{o:HO}
theorem ObjOk.lt (x:ObjOk P w H h a o):a<h.objs.size:=by
 cases o with
 | lst xs=>obtain⟨_,_,_,_,e⟩:=x;exact A09 e
 | tup xs=>obtain⟨_,_,_,p⟩:=x;exact p.tup.lt
 | dK kvs=>obtain⟨_,_,_,_,o,_,_,e,_⟩:=x;exact A09 e
 | dT kvs=>obtain⟨_,_,_,_,o,_,_,e,_⟩:=x;exact A09 e
 | set S n=>obtain⟨o,_,_,_,e,_⟩:=x;exact A09 e
 | ins C dx fs=>obtain⟨_,_,_,e,_⟩:=x;exact A09 e
 | own y=>obtain⟨_,e⟩:=x;exact A09 e
 | xd fs=>obtain⟨_,⟨_,_,_,e,_⟩,_⟩:=x;exact A09 e
 | rng lo hi=>obtain⟨_,_,_,e⟩:=x;exact A09 e
 | frz ob u=>obtain⟨e,_⟩:=x;exact A09 e
 | tbl ps=>exact A09 (show h.get? a=some _ from x)
 | met f y=>exact A09 (show h.get? a=some _ from x)
 | ext φ=>obtain⟨_,⟨_,e⟩,_⟩:=x;exact A09 e
theorem Paired.mapP {α β:Type}{F G:α->β->Prop}:∀ {l₁:List α} {l₂:List β},Paired F l₁ l₂->(∀ a b,F a b->G a b)->Paired G l₁ l₂
 | _,_,.nil,_=>.nil
 | _,_,.cons r t,f=>.cons (f _ _ r) (Paired.mapP t f)
theorem ObjOk.stay (x:ObjOk P w H h a o)(k:∀ b u,(b=a\/H b=some (.own a))->h.get? b=some u->h'.get? b=some u)
  (ho:∀ b,H b=some (.own a)->H' b=some (.own a)) (ht:∀ b xs,H b=some (.tup xs)->H' b=some (.tup xs)):ObjOk P w H' h' a o:=by
 induction o with
 | lst xs=>obtain⟨z,its,n,r,e⟩:=x;exact⟨z,its,n,r,k _ _ (.inl rfl) e⟩
 | tup xs=>obtain⟨z,its,r,ob,e,c⟩:=x;exact⟨z,its,r,ob,k _ _ (.inl rfl) e,c⟩
 | dK kvs=>obtain⟨z,y,vs,r,ob,es,ep,e,c⟩:=x;exact⟨z,y,vs,r,ob,es,ep,k _ _ (.inl rfl) e,c⟩
 | dT kvs=>
   obtain⟨z,y,xs,r,ob,es,ep,e,c⟩:=x
   exact⟨z,y,xs,Paired.mapP r λp q z=>⟨z.1,ht _ _ z.2.1,z.2.2⟩,ob,es,ep,k _ _ (.inl rfl) e,c⟩
 | set S n=>obtain⟨ob,es,ep,t,e,c⟩:=x;exact⟨ob,es,ep,t,k _ _ (.inl rfl) e,c⟩
 | ins C dx fs=>
   obtain⟨d,z,ne,e,mA,⟨od,es,ep,e2,c⟩,r⟩:=x
   exact⟨ho _ d,z,ne,k _ _ (.inl rfl) e,mA,⟨od,es,ep,k _ _ (.inr d) e2,c⟩,r⟩
 | own y=>obtain⟨ob,e⟩:=x;exact⟨ob,k _ _ (.inl rfl) e⟩
 | xd fs=>obtain⟨mA,⟨od,es,ep,e,c⟩,r⟩:=x;exact⟨mA,⟨od,es,ep,k _ _ (.inl rfl) e,c⟩,r⟩
 | rng lo hi=>obtain⟨t,u,v,e⟩:=x;exact⟨t,u,v,k _ _ (.inl rfl) e⟩
 | frz ob u ih=>obtain⟨e,q⟩:=x;exact⟨k _ _ (.inl rfl) e,ih q⟩
 | tbl ps=>
   have e:h.get? a=some { cls:=.none,data:=.fields ps }:=x
   show h'.get? a=some { cls:=.none,data:=.fields ps }
   exact k a _ (.inl rfl) e
 | met f y=>
   have e:h.get? a=some (PySem.W.methodObj (.ref f) (.ref y)):=x
   show h'.get? a=some (PySem.W.methodObj (.ref f) (.ref y))
   exact k a _ (.inl rfl) e
 | ext φ=>obtain⟨p,⟨o,e⟩,st⟩:=x;exact⟨st _ _ p λo q=>k _ _ (.inl rfl) q,⟨o,k _ _ (.inl rfl) e⟩,st⟩
theorem HOk.lt (x:HOk P w H h)(e:H a=some o):a<h.objs.size:=(x a o e).lt
theorem HOk.fresh (x:HOk P w H h)(e:h.objs.size<=a):H a=none:=by
 cases q:H a with
 | none=>rfl
 | some u=>exact absurd (A0U (x.lt q) e) (A26 _)
theorem HOk.kept (x:HOk P w H h)(k:∀ b u,h.get? b=some u->h'.get? b=some u):HOk P w H h':=λa o e=>
 (x a o e).stay (λb u _ q=>k b u q) (λ_ q=>q) λ_ _ q=>q
theorem HOk.laid (x:HOk P w H h)(k:∀ b u,h.get? b=some u->h'.get? b=some u)(hp:h.objs.size<=a)(new:ObjOk P w (upd H a o) h' a o):HOk P w (upd H a o) h':=λb u e=>by
 have hn:=x.fresh hp
 by_cases hb:b=a
 . subst hb;rw[Ad] at e;cases e;exact new
 rw[Au hb] at e
 exact(x b u e).stay (λc v _ q=>k c v q) (λc q=>by rw[Au (ne_of_none q hn)];exact q) λc xs q=>by rw[Au (ne_of_none q hn)];exact q
end
def Rd (H:Hp)(a:Addr)(u:HO):Prop:=H a=some u\/∃ o,H a=some (.frz o u)
theorem Rd.ok {P:Program}{w:World}{H:Hp}{h:Heap}{a:Addr}{u:HO}(r:Rd H a u)(x:HOk P w H h):ObjOk P w H h a u:=by
 rcases r with r | ⟨o,r⟩
 . exact x a u r
 obtain⟨_,q⟩:=x a _ r
 exact q
def Mut:Option HO->Prop
 | some (.lst _)=>True
 | some (.dK _)=>True
 | some (.dT _)=>True
 | some (.set _ _)=>True
 | some (.ins _ _ _)=>True
 | some (.ext _)=>True
 | _=>False
section
variable {P:Program}{w:World}{H:Hp}{h h':Heap}{x e:Addr}{o':HO}
theorem HOk.write (ok:HOk P w H h)(mu:Mut (H x))(he:e=x\/H e=some (.own x))(k:∀ b u,b≠e->h.get? b=some u->h'.get? b=some u)(heo:∃ u,h'.get? e=some u)
  (new:ObjOk P w (upd H x o') h' x o'):HOk P w (upd H x o') h':=λb u q=>by
 have nown:∀ c y,H c=some (.own y)->c≠x:=λc y r z=>by subst z;rw[r] at mu;exact mu
 have ntup:∀ c xs,H c=some (.tup xs)->c≠x:=λc xs r z=>by subst z;rw[r] at mu;exact mu
 by_cases hb:b=x
 . subst hb;rw[Ad] at q;cases q;exact new
 rw[Au hb] at q
 by_cases hbe:b=e
 . have q':H b=some (.own x):=by
    rcases he with z | z
    . exact absurd (hbe.trans z) hb
    rw[hbe];exact z
   rw[q] at q';cases q'
   obtain⟨v,hv⟩:=heo
   exact⟨v,by rw[hbe];exact hv⟩
 refine(ok b u q).stay (λc v hc r=>k c v ?_ r) (λc r=>by rw[Au (nown c b r)];exact r) λc xs r=>by rw[Au (ntup c xs r)];exact r
 rcases hc with rfl | hc
 . exact hbe
 rintro rfl
 rcases he with z | z
 . exact nown c b hc z
 rw[hc] at z;cases z;exact hb rfl
end
structure Un (fs ex:List Addr)(H H':Hp)(h h':Heap):Prop where
 keep:∀ b o,h.get? b=some o->H b=none->b∉fs->b∉ex->h'.get? b=some o
 slot:∀ b o,h.get? b=some o->H b=none->b∈fs->b∉ex->∃ sl,h'.get? b=some { o with slots:=sl }
 free:∀ b o,h.get? b=some o->H b=none->b∉ex->H' b=none
 there:∀ b o,h.get? b=some o->b∉ex->∃ o',h'.get? b=some o'
 tups:∀ b xs,H b=some (.tup xs)->H' b=some (.tup xs)
 frzs:∀ b o u,H b=some (.frz o u)->H' b=some (.frz o u)
 tbls:∀ b ps,H b=some (.tbl ps)->∃ more,H' b=some (.tbl (ps++more))
section
variable {fs fs' ex ex':List Addr}{H H1 H2:Hp}{h h1 h2 h':Heap}{a x e:Addr}{o:HO}
theorem Un.any (u:Un fs ex H H1 h h1){b:Addr}{ob:Obj}(q:h.get? b=some ob)(n:H b=none)(hx:b∉ex):∃ sl,h1.get? b=some { ob with slots:=sl }:=by
 by_cases hb:b∈fs
 . exact u.slot b ob q n hb hx
 exact⟨ob.slots,u.keep b ob q n hb hx⟩
theorem Un.kept (k:∀ b u,h.get? b=some u->h'.get? b=some u):Un fs ex H H h h':=
 ⟨λb ob q _ _ _=>k b ob q,λb ob q _ _ _=>⟨ob.slots,k b ob q⟩,λ_ _ _ n _=>n,λb ob q _=>⟨ob,k b ob q⟩,λ_ _ q=>q,λ_ _ _ q=>q,λ_ ps q=>⟨#[],by rw[q];simp⟩⟩
theorem Un.refl:Un fs ex H H h h:=Un.kept λ_ _ q=>q
theorem Un.laid (k:∀ b u,h.get? b=some u->h'.get? b=some u)(hp:h.objs.size<=a)(hn:H a=none):Un fs ex H (upd H a o) h h' where
 keep:=λb u q _ _ _=>k b u q
 slot:=λb u q _ _ _=>⟨u.slots,k b u q⟩
 free:=λb u q n _=>by rw[Au (A0J (A0U (A09 q) hp))];exact n
 there:=λb u q _=>⟨u,k b u q⟩
 tups:=λb xs q=>by rw[Au (ne_of_none q hn)];exact q
 frzs:=λb u xs q=>by rw[Au (ne_of_none q hn)];exact q
 tbls:=λb ps q=>⟨#[],by rw[Au (ne_of_none q hn),q];simp⟩
theorem Un.write (mu:Mut (H x))(he:e=x\/H e=some (.own x))(k:∀ b u,b≠e->h.get? b=some u->h'.get? b=some u)(heo:∃ u,h'.get? e=some u):Un fs ex H (upd H x o) h h':=by
 have hx:∀ b,H b=none->b≠x:=λb n z=>by subst z;rw[n] at mu;exact mu
 have hb:∀ b,H b=none->b≠e:=λb n z=>by
  subst z
  rcases he with r | r
  . exact hx b n r
  rw[n] at r;cases r
 have hm:∀ b u,H b=some u->¬ Mut (some u)->b≠x:=λb u q nm z=>by subst z;rw[q] at mu;exact nm mu
 refine⟨λb u q n _ _=>k b u (hb b n) q,λb u q n _ _=>⟨u.slots,k b u (hb b n) q⟩,λb u q n _=>by rw[Au (hx b n)];exact n,λb u q _=>?_,
  λb xs q=>by rw[Au (hm b _ q λz=>z)];exact q,λb u xs q=>by rw[Au (hm b _ q λz=>z)];exact q,λb ps q=>⟨#[],by rw[Au (hm b _ q λz=>z),q];simp⟩⟩
 by_cases hbe:b=e
 . subst hbe;exact heo
 exact⟨u,k b u hbe q⟩
end
def trk (h:Heap)(H:Hp):List Addr:=(List.range h.objs.size).filter λa=>(H a).isSome
def ac3 (h:Heap)(H:Hp):Heap:=PySem.W.hideAll h (trk h H)
theorem a50 (h:Heap)(H:Hp):(ac3 h H).objs.size=h.objs.size:=PySem.W.hideAll_size _ _
theorem a94 {h:Heap}{H:Hp}{b:Addr}{o:Obj}(e:h.get? b=some o)(n:H b=none):(ac3 h H).get? b=some o:=
 PySem.W.hideAll_get _ e λhm=>by
  have q:(H b).isSome=true:=(A21.mp hm).2
  rw[n] at q;simp at q
theorem ap6 {h:Heap}{H:Hp}{b:Addr}{o:Obj}(e:(ac3 h H).get? b=some o):h.get? b=some o/\H b=none:=by
 have e':h.get? b=some o:=PySem.W.of_hideAll (trk h H) e
 refine⟨e',?_⟩
 cases q:H b with
 | none=>rfl
 | some x=>
   have hm:b∈trk h H:=List.mem_filter.mpr ⟨List.mem_range.mpr (Heap.lt_size e'),by simp[q]⟩
   have z:(ac3 h H).get? b=none:=PySem.W.hideAll_none (trk h H) hm
   rw[z] at e;cases e
def ai7 (g h:Heap)(L:Addr):List (Addr×Obj):=(List.range h.objs.size).filterMap λa=>if a=L\/(g.get? a).isSome=true then none else(h.get? a).map λo=>(a,o)
def rest (g h:Heap)(L d:Addr):List (Addr×Obj):=(ai7 g h L).filter λp=>decide (p.1≠d)
structure Mod (K:PySem.W.Frag)(mg:Str->Option Value)(base:Heap):Prop where
 kin:K.In base
 glob:base.Ns mainGlobals mg
 blt:∃ mb,base.Ns builtinsNs mb/\∀ x:Str,x ≠ "__name__" -> mb x=bootBuiltins x
 nolimit:base.NoLimit
/-- the context: a def's body (or a comprehension's block) running. base: fixed through the whole law;s₀,H₀: the entry;outer: the frames whose slots others may change (a def's callers);stack: all frames that run;
  ex: iterators that were made ahead of the entry and are walked here (a comprehension's);fn: the names whose cells were made at the entry (a def: all;a comprehension's block: its own);calm: not within an except suite;pn: pins that every state bears;xe: what is wanted of an exception that leaves the code -/
structure Cx where
 prog:Program
 w:World
 K:PySem.W.Frag
 mg:Str->Option Value
 base:Heap
 A:Around
 N:List Str
 s₀:Shared
 H₀:Hp
 env:Env
 outer:List Env
 stack:List Env
 ex:List Addr
 fn:Str->Bool
 calm:Bool
 pn:List (Addr×Obj)
 xe:Value->Shared->Prop
def frs (l:List Env):List Addr:=l.filterMap (·.frame)
abbrev Cx.fs (X:Cx):List Addr:=frs X.outer
def Vis (sc:Scope)(x:Str):Prop:=sc.names.lookup x=some .local\/sc.names.lookup x=some .cell\/sc.names.lookup x=some .free
def Loc (sc:Scope)(x:Str):Prop:=sc.names.lookup x=some .local\/sc.names.lookup x=some .cell
def Look (env:Env)(h:Heap)(m:Str->Option Value)(x:Str)(u:Value):Prop:=
 (env.kindOf x=some .local/\m x=some u)\/((env.kindOf x=some .cell\/env.kindOf x=some .free)/\∃ c,env.cells.lookup x=some c/\h.IsCell c (some u))
structure Cx.Ok (X:Cx):Prop where
 mod:Mod X.K X.mg X.base
 kind:X.env.scope.kind = .function
 glob:X.env.globals=mainGlobals
 blt:X.env.builtins=builtinsNs
 above:X.s₀.heap.objs.size<=X.env.locals
 inj:∀ x y c,X.env.cells.lookup x=some c->X.env.cells.lookup y=some c->x=y
 has:∀ x,(X.env.kindOf x=some .cell\/X.env.kindOf x=some .free)->∃ c,X.env.cells.lookup x=some c
 cab:∀ x c,X.fn x=true->X.env.cells.lookup x=some c->X.s₀.heap.objs.size<=c
 hd:X.calm=true->X.A.handled=none
 frames:X.A.frames=some X.stack
 stk:X.stack=X.outer\/(X.stack=X.env :: X.outer/\X.env.frame=some X.env.locals)
 exf:∀ b∈X.ex,b≠X.env.locals/\∀ x c,X.env.cells.lookup x=some c->c≠b
 bs:∀ b o,X.base.get? b=some o->X.s₀.heap.get? b=some o/\X.H₀ b=none
 bsz:X.base.objs.size<=X.s₀.heap.objs.size
 noex:∀ b o,X.base.get? b=some o->b∉X.ex
 exfs:∀ b∈X.ex,b∉X.fs
 funs:X.s₀.heap.FunFrames X.base X.outer
 frf:∀ b∈X.fs,X.H₀ b=none
structure Inv (X:Cx)(pins:List (Addr×Obj))(σ:List (Option V))(H:Hp)(s:Shared):Prop where
 ok:X.Ok
 os:s.os=X.s₀.os
 bare:AllBare s.gens
 base:Un X.fs X.ex X.H₀ H X.s₀.heap s.heap
 loc:∃ m,s.heap.Ns X.env.locals m/\∀(i:Nat) (x:Str) (v:V),X.N[i]? = some x->σ[i]? = some (some v)->Vis X.env.scope x->∃ u,RelV v u/\Look X.env s.heap m x u
 cell:∀ x c,X.env.cells.lookup x=some c->∃ v,s.heap.IsCell c v
 free:H X.env.locals=none
 freeC:∀ x c,X.env.cells.lookup x=some c->H c=none
 pin:∀ p∈X.pn++pins,s.heap.get? p.1=some p.2/\H p.1=none/\p.1≠X.env.locals/\p.1∉X.fs/\∀ v,p.2.data ≠ .cell v
 hok:HOk X.prog X.w H s.heap
 len:σ.length=X.N.length
section
variable {X:Cx}{pins:List (Addr×Obj)}{σ:List (Option V)}{H H':Hp}{s:Shared}{h':Heap}
theorem Cx.Ok.nofr (ok:X.Ok){b:Addr}{o:Obj}(e:X.base.get? b=some o):b∉X.fs:=λhb=>by
 have:=(ok.funs.mem hb).1
 rw[e] at this;cases this
theorem Inv.bs (I:Inv X pins σ H s):∀ b o,X.base.get? b=some o->s.heap.get? b=some o/\H b=none:=λb o e=>
 ⟨I.base.keep b o (I.ok.bs b o e).1 (I.ok.bs b o e).2 (I.ok.nofr e) (I.ok.noex b o e),I.base.free b o (I.ok.bs b o e).1 (I.ok.bs b o e).2 (I.ok.noex b o e)⟩
theorem Inv.bk (I:Inv X pins σ H s):∀ b o,X.base.get? b=some o->s.heap.get? b=some o:=λb o e=>(I.bs b o e).1
theorem Inv.mod (I:Inv X pins σ H s):Mod X.K X.mg X.base:=I.ok.mod
theorem Inv.kIn (I:Inv X pins σ H s):X.K.In s.heap:=I.ok.mod.kin.keeps I.bk
theorem Inv.lt (I:Inv X pins σ H s):X.env.locals<s.heap.objs.size:=let ⟨_,hn,_⟩:=I.loc;hn.lt
theorem Inv.sz (I:Inv X pins σ H s):X.s₀.heap.objs.size<=s.heap.objs.size:=A0L I.ok.above (A25 I.lt)
theorem Inv.nofs (I:Inv X pins σ H s){a:Addr}(h:s.heap.objs.size<=a):a∉X.fs:=λhb=>by
 obtain⟨_,o,ho,_⟩:=I.ok.funs.mem hb
 exact absurd (A0U (A09 ho) (A0L I.sz h)) (A26 _)
theorem Inv.cne (I:Inv X pins σ H s):∀ x c,X.env.cells.lookup x=some c->c≠X.env.locals:=λx c e z=>by
 obtain⟨v,o,ho,hd⟩:=I.cell x c e
 obtain⟨m,⟨o',es,ep,ho',hd',_⟩,_⟩:=I.loc
 rw[z,ho'] at ho;cases ho;rw[hd'] at hd;cases hd
theorem Inv.funs (I:Inv X pins σ H s):s.heap.FunFrames X.base X.outer:=by
 have all:∀(l:List Env),(∀ b∈frs l,b∈X.fs)->X.s₀.heap.FunFrames X.base l->s.heap.FunFrames X.base l:=by
  intro l
  induction l with
  | nil=>intro _ _;trivial
  | cons env r ih=>
    intro hs hl
    obtain⟨hk,⟨L,o,hf,hn,ho,hd⟩,hr⟩:=hl
    have hL:L∈X.fs:=hs L (by unfold frs;rw[List.filterMap_cons,hf];exact List.mem_cons_self)
    obtain⟨sl,e⟩:=I.base.slot L o ho (I.ok.frf L hL) hL λz=>I.ok.exfs L z hL
    exact⟨hk,⟨L,_,hf,hn,e,hd⟩,ih (λb hb=>hs b (by unfold frs;rw[List.filterMap_cons,hf];exact List.mem_cons_of_mem _ hb)) hr⟩
 exact all X.outer (λ_ hb=>hb) I.ok.funs
theorem Inv.stack (I:Inv X pins σ H s):s.heap.FunFrames X.base X.stack:=by
 rcases I.ok.stk with e | ⟨e,hf⟩
 . rw[e];exact I.funs
 rw[e]
 obtain⟨m,hn,_⟩:=I.loc
 refine .cons (by rw[I.ok.kind];decide) hf hn ?_ I.funs
 exact Heap.get?_none_of_le (A0L I.ok.bsz I.ok.above)
theorem Inv.stkSub (I:Inv X pins σ H s):∀ b∈frs X.stack,b∈X.env.locals :: X.fs:=λb hb=>by
 rcases I.ok.stk with e | ⟨e,hf⟩
 . rw[e] at hb;exact A0C _ hb
 rw[e] at hb
 unfold frs at hb
 rw[List.filterMap_cons,hf] at hb
 exact hb
theorem Inv.stkFree (I:Inv X pins σ H s):∀ b∈frs X.stack,H b=none:=λb hb=>by
 rcases A0K.mp (I.stkSub b hb) with e | hb
 . rw[e];exact I.free
 obtain⟨_,o,ho,_⟩:=I.ok.funs.mem hb
 exact I.base.free b o ho (I.ok.frf b hb) λz=>I.ok.exfs b z hb
theorem Inv.step {g':Array GenState}{t':Nat}{d':Drawn}{ch:List Addr}(I:Inv X pins σ H s)
  (hch:∀ b∈ch,(b∈X.ex\/X.s₀.heap.objs.size<=b)/\b≠X.env.locals/\(∀ x c,X.env.cells.lookup x=some c->c≠b)/\∀ p∈X.pn++pins,p.1≠b)
  (keep:∀ b o,b≠X.env.locals->b∉X.fs->b∉ch->s.heap.get? b=some o->H b=none->h'.get? b=some o)
  (slot:∀ b o,b≠X.env.locals->b∈X.fs->b∉ch->s.heap.get? b=some o->H b=none->∃ sl,h'.get? b=some { o with slots:=sl }) (free:∀ b o,b∉ch->s.heap.get? b=some o->H b=none->H' b=none)
  (there:∀ b o,b∉ch->s.heap.get? b=some o->∃ o',h'.get? b=some o')
  (tups:∀ b xs,H b=some (.tup xs)->H' b=some (.tup xs)) (frzs:∀ b o u,H b=some (.frz o u)->H' b=some (.frz o u)) (tbls:∀ b ps,H b=some (.tbl ps)->∃ more,H' b=some (.tbl (ps++more)))
  (ns:∀ m,s.heap.Ns X.env.locals m->h'.Ns X.env.locals m) (hok:HOk X.prog X.w H' h') (hg:AllBare g') :
  Inv X pins σ H' { s with heap:=h',gens:=g',drawn:=d',toks:=t' }:=by
 have neL:∀ b o,X.s₀.heap.get? b=some o->b≠X.env.locals:=λb o e=>A0J (A0U (A09 e) I.ok.above)
 have neC:∀ b o,X.s₀.heap.get? b=some o->b∉X.ex->b∉ch:=λb o e hx hb=>by
  rcases(hch b hb).1 with z | z
  . exact hx z
  exact absurd (A0U (A09 e) z) (A26 _)
 have cellK:∀ x c,X.env.cells.lookup x=some c->∀ v,s.heap.IsCell c v->h'.IsCell c v:=λx c e v ⟨o,ho,hd⟩=>by
  have nch:c∉ch:=λz=>(hch c z).2.2.1 x c e rfl
  by_cases hc:c∈X.fs
  . obtain⟨sl,q⟩:=slot c o (I.cne x c e) hc nch ho (I.freeC x c e)
    exact⟨_,q,hd⟩
  exact⟨o,keep c o (I.cne x c e) hc nch ho (I.freeC x c e),hd⟩
 refine⟨I.ok,I.os,hg,⟨λb o e n hb hx=>?_,λb o e n hb hx=>?_,λb o e n hx=>?_,λb o e hx=>?_,λb xs e=>tups b xs (I.base.tups b xs e),λb o xs e=>frzs b o xs (I.base.frzs b o xs e),λb ps e=>?_⟩,?_,λx c e=>?_,?_,λx c e=>?_,λp hp=>?_,hok,I.len⟩
 . exact keep b o (neL b o e) hb (neC b o e hx) (I.base.keep b o e n hb hx) (I.base.free b o e n hx)
 . obtain⟨sl,e1⟩:=I.base.slot b o e n hb hx
   obtain⟨sl',e2⟩:=slot b _ (neL b o e) hb (neC b o e hx) e1 (I.base.free b o e n hx)
   exact⟨sl',e2⟩
 . obtain⟨o',e1⟩:=I.base.there b o e hx
   exact free b o' (neC b o e hx) e1 (I.base.free b o e n hx)
 . obtain⟨o',e1⟩:=I.base.there b o e hx
   exact there b o' (neC b o e hx) e1
 . obtain⟨m1,e1⟩:=I.base.tbls b ps e
   obtain⟨m2,e2⟩:=tbls b _ e1
   exact⟨m1++m2,by rw[e2,Array.append_assoc]⟩
 . obtain⟨m,hn,hl⟩:=I.loc
   refine⟨m,ns m hn,λi x v e1 e2 e3=>?_⟩
   obtain⟨u,r,l⟩:=hl i x v e1 e2 e3
   refine⟨u,r,?_⟩
   rcases l with l | ⟨k,c,e,z⟩
   . exact .inl l
   exact .inr ⟨k,c,e,cellK x c e _ z⟩
 . obtain⟨v,z⟩:=I.cell x c e
   exact⟨v,cellK x c e v z⟩
 . obtain⟨m,⟨o,_,_,ho,_⟩,_⟩:=I.loc
   exact free _ o (λz=>(hch _ z).2.1 rfl) ho I.free
 . obtain⟨v,o,ho,hd⟩:=I.cell x c e
   exact free c o (λz=>(hch c z).2.2.1 x c e rfl) ho (I.freeC x c e)
 obtain⟨e,n,ne,nf,d⟩:=I.pin p hp
 have nch:p.1∉ch:=λz=>(hch p.1 z).2.2.2 p hp rfl
 exact⟨keep p.1 p.2 ne nf nch e n,free p.1 p.2 nch e n,ne,nf,d⟩
theorem Inv.un {t':Nat}(I:Inv X pins σ H s)(u:Un X.fs [] H H' s.heap h')(hok:HOk X.prog X.w H' h'):Inv X pins σ H' { s with heap:=h',toks:=t' }:=by
 obtain⟨m,⟨o,es,ep,ho,r⟩,_⟩:=id I.loc
 obtain⟨sl,hL⟩:=u.any ho I.free nofun
 exact I.step (g':=s.gens) (d':=s.drawn) (ch:=[]) (λ_ z=>nomatch z) (λb o _ hb _ e n=>u.keep b o e n hb nofun) (λb o _ hb _ e n=>u.slot b o e n hb nofun) (λb o _ e n=>u.free b o e n nofun) (λb o _ e=>u.there b o e nofun) u.tups u.frzs u.tbls (λm' hm=>by
  obtain⟨o',es',ep',ho',r'⟩:=hm
  rw[ho] at ho';cases ho'
  exact⟨_,es',ep',hL,r'⟩) hok I.bare
theorem Inv.call {g':Array GenState}{t':Nat}{d':Drawn}{ch:List Addr}(I:Inv X pins σ H s)(u:Un (frs X.stack) ch H H' s.heap h')(hok:HOk X.prog X.w H' h')(hg:AllBare g')
  (hch:∀ b∈ch,(b∈X.ex\/X.s₀.heap.objs.size<=b)/\b≠X.env.locals/\(∀ x c,X.env.cells.lookup x=some c->c≠b)/\∀ p∈X.pn++pins,p.1≠b) :
  Inv X pins σ H' { s with heap:=h',gens:=g',drawn:=d',toks:=t' }:=by
 obtain⟨m,⟨o,es,ep,ho,r⟩,_⟩:=id I.loc
 obtain⟨sl,hL⟩:=u.any ho I.free λz=>(hch _ z).2.1 rfl
 exact I.step (ch:=ch) hch (λb o hL hb hc e n=>u.keep b o e n (λz=>(A0K.mp (I.stkSub b z)).elim hL hb) hc) (λb o _ _ hc e n=>u.any e n hc) (λb o hc e n=>u.free b o e n hc) (λb o hc e=>u.there b o e hc) u.tups u.frzs u.tbls (λm' hm=>by
  obtain⟨o',es',ep',ho',r'⟩:=hm
  rw[ho] at ho';cases ho'
  exact⟨_,es',ep',hL,r'⟩) hok hg
theorem Inv.turned {t':Nat}{it:Addr}(I:Inv X pins σ H s)(k:∀ b o,b≠it->s.heap.get? b=some o->h'.get? b=some o)(hn:H it=none)(hL:it≠X.env.locals)
  (h1:it∈X.ex\/X.s₀.heap.objs.size<=it) (h2:∀ x c,X.env.cells.lookup x=some c->c≠it) (h3:∀ p∈X.pn++pins,p.1≠it):Inv X pins σ H { s with heap:=h',toks:=t' }:=by
 have nit:∀ b u,H b=some u->b≠it:=λb u e z=>by rw[z,hn] at e;cases e
 refine I.step (g':=s.gens) (d':=s.drawn) (ch:=[it]) (λb hb=>?_) (λb o _ _ hc e _=>k b o (λz=>hc (by simp[z])) e) (λb o _ _ hc e _=>⟨o.slots,k b o (λz=>hc (by simp[z])) e⟩) (λ_ _ _ _ n=>n)
  (λb o hc e=>⟨o,k b o (λz=>hc (by simp[z])) e⟩) (λ_ _ e=>e) (λ_ _ _ e=>e) (λb ps e=>⟨#[],by rw[e];simp⟩) (λm hm=>?_) (λb u e=>?_) I.bare
 . have e:b=it:=by simpa using hb
   subst e
   exact⟨h1,hL,h2,h3⟩
 . obtain⟨o,es,ep,ho,r⟩:=hm
   exact⟨o,es,ep,k _ o (Ne.symm hL) ho,r⟩
 refine(I.hok b u e).stay (λc v hc q=>k c v ?_ q) (λ_ q=>q) λ_ _ q=>q
 rcases hc with z | z
 . rw[z];exact nit b u e
 exact nit c _ z
theorem Inv.tok (I:Inv X pins σ H s)(t:Nat):Inv X pins σ H { s with toks:=t }:=I.un (h':=s.heap) (t':=t) Un.refl I.hok
theorem Inv.kept {t':Nat}(I:Inv X pins σ H s)(k:∀ b u,s.heap.get? b=some u->h'.get? b=some u):Inv X pins σ H { s with heap:=h',toks:=t' }:=I.un (Un.kept k) (I.hok.kept k)
theorem Inv.laid {a:Addr}{o:HO}{t':Nat}(I:Inv X pins σ H s)(k:∀ b u,s.heap.get? b=some u->h'.get? b=some u)(hp:s.heap.objs.size<=a)(new:ObjOk X.prog X.w (upd H a o) h' a o) :
  Inv X pins σ (upd H a o) { s with heap:=h',toks:=t' }:=I.un (Un.laid k hp (I.hok.fresh hp)) (I.hok.laid k hp new)
theorem Inv.write {x e:Addr}{o:HO}{t':Nat}(I:Inv X pins σ H s)(mu:Mut (H x))(he:e=x\/H e=some (.own x))(k:∀ b u,b≠e->s.heap.get? b=some u->h'.get? b=some u)(heo:∃ u,h'.get? e=some u)
  (new:ObjOk X.prog X.w (upd H x o) h' x o):Inv X pins σ (upd H x o) { s with heap:=h',toks:=t' }:=I.un (Un.write mu he k heo) (I.hok.write mu he k heo new)
theorem Inv.weak {σ':List (Option V)}(I:Inv X pins σ H s)(hl:σ'.length=σ.length)(w:∀(i:Nat) v,σ'[i]? = some (some v)->σ[i]? = some (some v)):Inv X pins σ' H s:=
 ⟨I.ok,I.os,I.bare,I.base,let ⟨m,hn,hl'⟩:=I.loc;⟨m,hn,λi x v e1 e2 e3=>hl' i x v e1 (w i v e2) e3⟩,I.cell,I.free,I.freeC,I.pin,I.hok,hl.trans I.len⟩
theorem Inv.pins_of {pins':List (Addr×Obj)}(I:Inv X pins σ H s)(h:∀ p∈pins',s.heap.get? p.1=some p.2/\H p.1=none/\p.1≠X.env.locals/\p.1∉X.fs/\∀ v,p.2.data ≠ .cell v):Inv X pins' σ H s:=
 ⟨I.ok,I.os,I.bare,I.base,I.loc,I.cell,I.free,I.freeC,λp hp=>(A0B.mp hp).elim (λz=>I.pin p (A0T _ z)) (h p),I.hok,I.len⟩
theorem Rj {N:List Str}(hN:N.Nodup){i j:Nat}{x:Str}(a:N[i]? = some x)(b:N[j]? = some x):i=j:=by
 obtain⟨h1,e1⟩:=A03.mp a
 obtain⟨h2,e2⟩:=A03.mp b
 exact(A1V hN).mp (e1.trans e2.symm)
theorem Tw {M:Model}{A:Around}{E:Value->Shared->Prop}{i:Nat}{x:Str}{v:V}{u:Value}{Q:Unit->Shared->Prop}(I:Inv X pins σ H s)(hN:X.N.Nodup)(hi:X.N[i]? = some x)(hx:Loc X.env.scope x)(r:RelV v u)
  (h:∀ s',Inv X pins (σ.set i (some v)) H s'->(∃ a,Heap.SameBut a s.heap s'.heap/\(a=X.env.locals\/X.env.cells.lookup x=some a))->Q () s') (hf:X.fn x=true\/X.env.scope.names.lookup x=some .local:=by with_unfolding_all (first | exact .inl rfl | exact .inr rfl | assumption)):wpAny M A (storeName X.env x u) Q E s:=by
 obtain⟨m,hn,hl⟩:=id I.loc
 have hcls:(X.env.scope.kind == .class||(X.env.scope.kind == .module&&X.env.locals != X.env.globals))=false:=by rw[I.ok.kind];rfl
 have hiσ:i<σ.length:=by rw[I.len];exact(A03.mp hi).1
 have cne:=I.cne
 have tracked:∀ {a:Addr} {h':Heap},(∃ o,s.heap.get? a=some o/\H a=none)->Heap.SameBut a s.heap h'->HOk X.prog X.w H h':=fun {a h'} ha hs b ob e=>by
  obtain⟨_,_,hfree⟩:=ha
  refine(I.hok b ob e).stay (λc w' hc q=>(hs.2 c ?_).trans q) (λ_ q=>q) λ_ _ q=>q
  rintro rfl
  rcases hc with rfl | hc
  . rw[hfree] at e;cases e
  rw[hfree] at hc;cases hc
 rcases hx with hk | hk
 . refine wpAny_storeName_local hk hn (λh' hn' hs=>?_) hcls
   obtain⟨oL,_,_,hoL,_⟩:=id hn
   refine h _ ⟨I.ok,I.os,I.bare,⟨λb o e n hb hx=>?_,λb o e n hb hx=>?_,I.base.free,λb o e hx=>?_,I.base.tups,I.base.frzs,I.base.tbls⟩,⟨_,hn',λj y v' e1 e2 e3=>?_⟩,λy c e=>?_,I.free,I.freeC,λp hp=>?_,tracked ⟨oL,hoL,I.free⟩ hs,by simpa using I.len⟩ ⟨_,hs,.inl rfl⟩
   . exact(hs.2 b (A0J (A0U (A09 e) I.ok.above))).trans (I.base.keep b o e n hb hx)
   . obtain⟨sl,e1⟩:=I.base.slot b o e n hb hx
     exact⟨sl,(hs.2 b (A0J (A0U (A09 e) I.ok.above))).trans e1⟩
   . obtain⟨o',e1⟩:=I.base.there b o e hx
     exact⟨o',(hs.2 b (A0J (A0U (A09 e) I.ok.above))).trans e1⟩
   . by_cases hj:j=i
     . subst hj
       rw[hi] at e1;cases e1
       rw[A34 hiσ] at e2
       cases e2
       exact⟨u,r,.inl ⟨hk,by simp⟩⟩
     rw[A1R (Ne.symm hj)] at e2
     obtain⟨u',r',q⟩:=hl j y v' e1 e2 e3
     refine⟨u',r',?_⟩
     rcases q with ⟨k,e⟩ | ⟨k,c,e,z⟩
     . refine .inl ⟨k,?_⟩
       have:y≠x:=λe=>hj (Rj hN e1 (e ▸ hi))
       simp[this,e]
     exact .inr ⟨k,c,e,z.sameBut hs (cne y c e)⟩
   . obtain⟨w',z⟩:=I.cell y c e
     exact⟨w',z.sameBut hs (cne y c e)⟩
   obtain⟨e,n,ne,nf,d⟩:=I.pin p hp
   exact⟨(hs.2 p.1 ne).trans e,n,ne,nf,d⟩
 have hfn:X.fn x=true:=by
  rcases hf with z | z
  . exact z
  rw[z] at hk;cases hk
 obtain⟨c,hc⟩:=I.ok.has x (.inl hk)
 obtain⟨w',z⟩:=I.cell x c hc
 refine wpAny_storeName_cell I.ok.kind hk hc z (λh' hc' hs=>?_)
 obtain⟨oc,hoc,hocd⟩:=id z
 refine h { s with heap:=h' } ⟨I.ok,I.os,I.bare,⟨λb o e n hb hx=>?_,λb o e n hb hx=>?_,I.base.free,λb o e hx=>?_,I.base.tups,I.base.frzs,I.base.tbls⟩,⟨m,hn.sameBut hs (Ne.symm (cne x c hc)),λj y v' e1 e2 e3=>?_⟩,λy c' e=>?_,I.free,I.freeC,λp hp=>?_,tracked ⟨oc,hoc,I.freeC x c hc⟩ hs,by simpa using I.len⟩ ⟨c,hs,.inr hc⟩
 . exact(hs.2 b (A0J (A0U (A09 e) (I.ok.cab x c hfn hc)))).trans (I.base.keep b o e n hb hx)
 . obtain⟨sl,e1⟩:=I.base.slot b o e n hb hx
   exact⟨sl,(hs.2 b (A0J (A0U (A09 e) (I.ok.cab x c hfn hc)))).trans e1⟩
 . obtain⟨o',e1⟩:=I.base.there b o e hx
   exact⟨o',(hs.2 b (A0J (A0U (A09 e) (I.ok.cab x c hfn hc)))).trans e1⟩
 . by_cases hj:j=i
   . subst hj
     rw[hi] at e1;cases e1
     rw[A34 hiσ] at e2
     cases e2
     exact⟨u,r,.inr ⟨.inl hk,c,hc,hc'⟩⟩
   rw[A1R (Ne.symm hj)] at e2
   obtain⟨u',r',q⟩:=hl j y v' e1 e2 e3
   refine⟨u',r',?_⟩
   rcases q with q | ⟨k,c',e,z'⟩
   . exact .inl q
   refine .inr ⟨k,c',e,z'.sameBut hs ?_⟩
   rintro rfl
   exact hj (Rj hN e1 (I.ok.inj _ _ _ e hc ▸ hi))
 . by_cases hcc:c'=c
   . subst hcc;exact⟨_,hc'⟩
   obtain⟨w2,z2⟩:=I.cell y c' e
   exact⟨w2,z2.sameBut hs hcc⟩
 obtain⟨e,n,ne,nf,d⟩:=I.pin p hp
 refine⟨(hs.2 p.1 ?_).trans e,n,ne,nf,d⟩
 intro q
 rw[q,hoc] at e
 have q':oc=p.2:=A0R e
 exact d w' (by rw[<- q'];exact hocd)
theorem Ly {M:Model}{A:Around}{E:Value->Shared->Prop}{i:Nat}{x:Str}{v:V}{u:Value}{Q:Unit->Shared->Prop}(I:Inv X pins σ H s)(hN:X.N.Nodup)(hi:X.N[i]? = some x)(hx:Loc X.env.scope x)(r:RelV v u)
  (h:∀ s',Inv X pins (σ.set i (some v)) H s'->Q () s') (hf:X.fn x=true\/X.env.scope.names.lookup x=some .local:=by with_unfolding_all (first | exact .inl rfl | exact .inr rfl | assumption)):wpAny M A (storeName X.env x u) Q E s:=
 Tw I hN hi hx r (λs' I' _=>h s' I') hf
theorem Inv.call' {s':Shared}{ch:List Addr}(I:Inv X pins σ H s)(ho:s'.os=s.os)(u:Un (frs X.stack) ch H H' s.heap s'.heap)(hok:HOk X.prog X.w H' s'.heap)(hg:AllBare s'.gens)
  (hch:∀ b∈ch,(b∈X.ex\/X.s₀.heap.objs.size<=b)/\b≠X.env.locals/\(∀ x c,X.env.cells.lookup x=some c->c≠b)/\∀ p∈X.pn++pins,p.1≠b):Inv X pins σ H' s':=by
 obtain⟨h',g',d',t',o'⟩:=s'
 have e:o'=s.os:=ho
 subst e
 exact I.call (g':=g') (t':=t') (d':=d') u hok hg hch
end
abbrev XK:=Value->Option Addr->Hp->Prop
abbrev St:=List (Option V)
abbrev VK:=V->Hp->Prop
abbrev TE:=St->Hp->VK->Prop
abbrev TT:=St->Hp->(Bool->Hp->Prop)->Prop
abbrev TA:=St->Hp->(List V->Hp->Prop)->Prop
structure Ends where
 nx:St->Hp->Prop
 rt:VK
 bk:St->Hp->Prop:=λ_ _=>False
 ct:St->Hp->Prop:=λ_ _=>False
abbrev TS:=Ends->St->Hp->Prop
def EP (X:Cx)(pins:List (Addr×Obj))(σ:St)(Q:VK)(u:Value)(s':Shared):Prop:=∃ v H',Inv X pins σ H' s'/\RelV v u/\Q v H'
def TP (X:Cx)(pins:List (Addr×Obj))(σ:St)(Q:Bool->Hp->Prop)(b:Bool)(s':Shared):Prop:=∃ H',Inv X pins σ H' s'/\Q b H'
def AP (X:Cx)(pins:List (Addr×Obj))(σ:St)(Q:List V->Hp->Prop)(us:List Value)(s':Shared):Prop:=∃ vs H',Inv X pins σ H' s'/\Vals vs us/\Q vs H'
def SP (X:Cx)(pins:List (Addr×Obj))(D:Ends)(f:Flow)(s':Shared):Prop:=
 match f with
 | .next=>∃ σ' H',Inv X pins σ' H' s'/\D.nx σ' H'
 | .brk=>∃ σ' H',Inv X pins σ' H' s'/\D.bk σ' H'
 | .cont=>∃ σ' H',Inv X pins σ' H' s'/\D.ct σ' H'
 | .ret u=>∃ v σ' H',Inv X pins σ' H' s'/\RelV v u/\D.rt v H'
def PE (X:Cx)(e:Expr)(t:TE):Prop:=
 ∀(pins:List (Addr×Obj)) (s:Shared) (σ:St) (H:Hp) (Q:VK),Inv X pins σ H s->t σ H Q->wpAny (model X.prog X.w) X.A (eval e X.env) (EP X pins σ Q) X.xe s
def PT (X:Cx)(e:Expr)(t:TT):Prop:=
 ∀(pins:List (Addr×Obj)) (s:Shared) (σ:St) (H:Hp) (Q:Bool->Hp->Prop),Inv X pins σ H s->t σ H Q->wpAny (model X.prog X.w) X.A (isTrue e X.env (eval e X.env)) (TP X pins σ Q) X.xe s
def PW (X:Cx)(e:Expr)(t:TT):Prop:=
 ∀(whole:Sem Value) (pins:List (Addr×Obj)) (s:Shared) (σ:St) (H:Hp) (Q:Bool->Hp->Prop),Inv X pins σ H s->t σ H Q->wpAny (model X.prog X.w) X.A (isTrue e X.env whole) (TP X pins σ Q) X.xe s
theorem PW.pt {X:Cx}{e:Expr}{t:TT}(h:PW X e t):PT X e t:=h _
def PA (X:Cx)(es:List Expr)(t:TA):Prop:=
 ∀(pos:Pos) (pins:List (Addr×Obj)) (s:Shared) (σ:St) (H:Hp) (Q:List V->Hp->Prop),Inv X pins σ H s->t σ H Q->wpAny (model X.prog X.w) X.A (spliced (backTo pos (starEach es X.env))) (AP X pins σ Q) X.xe s
def PS (X:Cx)(st:Stmt)(t:TS):Prop:=
 ∀(pins:List (Addr×Obj)) (s:Shared) (σ:St) (H:Hp) (D:Ends),Inv X pins σ H s->t D σ H->wpAny (model X.prog X.w) X.A (exec st X.env) (SP X pins D) X.xe s
def PSs (X:Cx)(st:List Stmt)(t:TS):Prop:=
 ∀(pins:List (Addr×Obj)) (s:Shared) (σ:St) (H:Hp) (D:Ends),Inv X pins σ H s->t D σ H->wpAny (model X.prog X.w) X.A (execs st X.env) (SP X pins D) X.xe s
theorem thn {α:Type}{t:Sem α}{Q Q':α->Shared->Prop}{M:Model}{A:Around}{E:Value->Shared->Prop}{s:Shared}(h:wpAny M A t Q E s)(hQ:∀ a s,Q a s->Q' a s):wpAny M A t Q' E s:=A1O h hQ λ_ _ x=>x
section
variable {X:Cx}
def aE6 (i:Nat):TE:=fun σ H Q=>∃ v,σ[i]? = some (some v)/\Q v H
def tC (v:V):TE:=λ_ H Q=>Q v H
theorem aA8 {i:Nat}{x:Str}{pos:Pos}(hN:X.N[i]? = some x)(hv:Vis X.env.scope x)(hd:(x==("__debug__":Str))=false:=by decide)(hcd:(x==("__classdict__":Str))=false:=by decide):PE X (.Name x pos) (aE6 i):=by
 intro pins s σ H Q I h
 obtain⟨v,e,h⟩:=h
 obtain⟨m,hn,hl⟩:=I.loc
 obtain⟨u,r,l⟩:=hl i x v hN e hv
 have fin:EP X pins σ Q u s:=⟨v,H,I,r,h⟩
 rcases l with ⟨hk,hm⟩ | ⟨hk,c,hc,hcell⟩
 . exact wpAny_Name (wpAny_loadName_local I.ok.kind hk hn hm fin) hd
 rcases hk with hk | hk
 . exact wpAny_Name (wpAny_loadName_cell I.ok.kind hk hc hcell fin) hd
 exact wpAny_Name (wpAny_loadName_free I.ok.kind hk hc hcell fin hcd) hd
theorem A9 {i j pos}:PE X (.Constant (.int i) j pos) (tC (.int i)):=λ_ _ _ H _ I h=>wpAny_Constant_int ⟨.int i,H,I.tok _,⟨_,rfl⟩,h⟩
theorem Ij {b j pos}:PE X (.Constant (.bool b) j pos) (tC (.bl b)):=λ_ _ _ H _ I h=>Constant_bool ⟨.bl b,H,I,rfl,h⟩
theorem Ih {j pos}:PE X (.Constant .none j pos) (tC .non):=λ_ _ _ H _ I h=>Constant_none ⟨.non,H,I,rfl,h⟩
theorem Ab {x j pos}:PE X (.Constant (.str x) j pos) (tC (.str x)):=λ_ _ _ H _ I h=>Calls.Constant_str ⟨.str x,H,I.tok _,⟨_,rfl⟩,h⟩
def Gl (X:Cx)(x:Str):Prop:=X.env.kindOf x=some .globalImplicit
theorem K4 {E:Value->Shared->Prop}{pins:List (Addr×Obj)}{s:Shared}{σ:St}{H:Hp}{x:Str}{u:Value}{pos:Pos}{Q:Value->Shared->Prop}(I:Inv X pins σ H s)(hg:Gl X x)(hm:X.mg x=some u)(h:Q u s)
  (hd:(x==("__debug__":Str))=false:=by decide):wpAny (model X.prog X.w) X.A (eval (.Name x pos) X.env) Q E s:=
 Calls.Name_function_global I.ok.kind hg (Calls.loadGlobal_global (by rw[I.ok.glob];exact I.mod.glob.keeps I.bk) hm h) hd
theorem Li {E:Value->Shared->Prop}{pins:List (Addr×Obj)}{s:Shared}{σ:St}{H:Hp}{x:Str}{u:Value}{pos:Pos}{Q:Value->Shared->Prop}(I:Inv X pins σ H s)(hg:Gl X x)(hm:X.mg x=none)(hv:bootBuiltins x=some u)(h:Q u s)
  (hn:x ≠ "__name__":=by decide) (hd:(x==("__debug__":Str))=false:=by decide):wpAny (model X.prog X.w) X.A (eval (.Name x pos) X.env) Q E s:=by
 obtain⟨mb,h1,h2⟩:=I.mod.blt
 exact Calls.Name_function_global I.ok.kind hg (Calls.loadGlobal_builtin (by rw[I.ok.glob];exact I.mod.glob.keeps I.bk) hm (by rw[I.ok.blt];exact h1.keeps I.bk) ((h2 x hn).trans hv) h) hd
theorem aj0 {x:Str}{v:V}{u:Value}{pos:Pos}(hg:Gl X x)(hm:X.mg x=some u)(r:RelV v u)(hd:(x==("__debug__":Str))=false:=by decide):PE X (.Name x pos) (tC v):=
 λ_ _ _ H _ I h=>K4 I hg hm ⟨v,H,I,r,h⟩ hd
theorem Ho {x:Str}{v:V}{u:Value}{pos:Pos}(hg:Gl X x)(hm:X.mg x=none)(hv:bootBuiltins x=some u)(r:RelV v u)(hn:x ≠ "__name__":=by decide)(hd:(x==("__debug__":Str))=false:=by decide):PE X (.Name x pos) (tC v):=
 λ_ _ _ H _ I h=>Li I hg hm hv ⟨v,H,I,r,h⟩ hn hd
variable {a b:Expr}{ta tb:TE}{pos:Pos}
def tB (t:TE):TT:=fun σ H Q=>t σ H λx H1=>∃ c,x = .bl c/\Q c H1
theorem Dr {e:Expr}{t:TE}(h:PE X e t)(he:∀ whole,isTrue e X.env whole=(do let v <- whole;standAt e.pos;holding [v] (truthy v)):=by intro _;ac_nf):PT X e (tB t):=by
 intro pins s σ H Q I hw
 refine isTrue_plain (thn (h pins s σ H _ I hw) λv s1 ⟨x,H1,I1,r1,q1⟩=>?_) (he _)
 obtain⟨d,rfl,q⟩:=q1
 cases r1
 exact A2N ⟨H1,I1,q⟩
variable {tA tB':TT}{rest:List Expr}
def aI0 (t u:TT):TT:=fun σ H Q=>t σ H λc H1=>if c=true then u σ H1 Q else Q false H1
def tOr (t u:TT):TT:=fun σ H Q=>t σ H λc H1=>if c=true then Q true H1 else u σ H1 Q
def aH1 (t:TT):TT:=fun σ H Q=>t σ H λc H1=>Q (!c) H1
theorem Rp (ha:PT X a tA):PW X (.BoolOp .And [a] pos) tA:=by
 intro wh pins s σ H Q I h
 refine isTrue_and (thn (ha pins s σ H Q I h) λc s1 e=>?_)
 cases c with
 | true=>exact isTrue_and_nil e
 | false=>exact e
theorem Od (ha:PT X a tA):PW X (.BoolOp .Or [a] pos) tA:=by
 intro wh pins s σ H Q I h
 refine isTrue_or (thn (ha pins s σ H Q I h) λc s1 e=>?_)
 cases c with
 | false=>exact isTrue_or_nil e
 | true=>exact e
theorem To (ha:PT X a tA)(hb:PW X (.BoolOp .And (b :: rest) pos) tB'):PW X (.BoolOp .And (a :: b :: rest) pos) (aI0 tA tB'):=by
 intro wh pins s σ H Q I h
 refine isTrue_and (thn (ha pins s σ H _ I h) λc s1 ⟨H1,I1,q1⟩=>?_)
 cases c with
 | true=>exact hb wh pins s1 σ H1 Q I1 q1
 | false=>exact⟨H1,I1,q1⟩
theorem Rx (ha:PT X a tA)(hb:PW X (.BoolOp .Or (b :: rest) pos) tB'):PW X (.BoolOp .Or (a :: b :: rest) pos) (tOr tA tB'):=by
 intro wh pins s σ H Q I h
 refine isTrue_or (thn (ha pins s σ H _ I h) λc s1 ⟨H1,I1,q1⟩=>?_)
 cases c with
 | true=>exact⟨H1,I1,q1⟩
 | false=>exact hb wh pins s1 σ H1 Q I1 q1
theorem Ig (ha:PT X a tA):PT X (.UnaryOp .Not a pos) (aH1 tA):=by
 intro pins s σ H Q I h
 exact isTrue_not (ha pins s σ H (λc H1=>Q (!c) H1) I h)
def aw6 (ta tb:TE):TE:=fun σ H Q=>ta σ H λx H1=>∃ c,x = .bl c/\if c=true then tb σ H1 Q else Q (.bl false) H1
def aH9 (ta tb:TE):TE:=fun σ H Q=>ta σ H λx H1=>∃ c,x = .bl c/\if c=true then Q (.bl true) H1 else tb σ H1 Q
theorem Vd {op}{t:TE}(h:PE X a t):PE X (.BoolOp op [a] pos) t:=λpins s σ H Q I hw=>BoolOp_one (h pins s σ H Q I hw)
theorem W6 (ha:PE X a ta)(hb:PE X (.BoolOp .And (b :: rest) pos) tb):PE X (.BoolOp .And (a :: b :: rest) pos) (aw6 ta tb):=by
 intro pins s σ H Q I h
 refine BoolOp_and (thn (ha pins s σ H _ I h) λv s1 ⟨x,H1,I1,r1,q1⟩=>?_)
 obtain⟨c,rfl,q1⟩:=q1
 cases r1
 refine A2N ?_
 cases c with
 | true=>exact hb pins s1 σ H1 Q I1 q1
 | false=>exact⟨.bl false,H1,I1,rfl,q1⟩
theorem aG0 (ha:PE X a ta)(hb:PE X (.BoolOp .Or (b :: rest) pos) tb):PE X (.BoolOp .Or (a :: b :: rest) pos) (aH9 ta tb):=by
 intro pins s σ H Q I h
 refine BoolOp_or (thn (ha pins s σ H _ I h) λv s1 ⟨x,H1,I1,r1,q1⟩=>?_)
 obtain⟨c,rfl,q1⟩:=q1
 cases r1
 refine A2N ?_
 cases c with
 | false=>exact hb pins s1 σ H1 Q I1 q1
 | true=>exact⟨.bl true,H1,I1,rfl,q1⟩
def tIf (t:TT)(ta tb:TE):TE:=fun σ H Q=>t σ H λc H1=>if c=true then ta σ H1 Q else tb σ H1 Q
theorem M6 {c:Expr}(hc:PT X c tA)(ha:PE X a ta)(hb:PE X b tb):PE X (.IfExp c a b pos) (tIf tA ta tb):=by
 intro pins s σ H Q I h
 refine wpAny_IfExp (thn (hc pins s σ H _ I h) λd s1 ⟨H1,I1,q1⟩=>?_)
 cases d with
 | true=>exact ha pins s1 σ H1 Q I1 q1
 | false=>exact hb pins s1 σ H1 Q I1 q1
end
def SqL (K:PySem.W.Frag)(H:Hp)(a:Addr)(xs:List V):Prop:=
 Rd H a (.lst xs) \/
  ∃(o:Obj) (its:Array Value) (n:Nat),K.lookup a=some o/\o.cls = .type "list" /\ o.dict=none/\o.data = .seq its n/\its.size<=sizeLine/\Vals xs its.toList
def SqT (K:PySem.W.Frag)(H:Hp)(a:Addr)(xs:List V):Prop:=
 Rd H a (.tup xs) \/
  ∃(o:Obj) (its:Array Value) (n:Nat),K.lookup a=some o/\o.cls = .type "tuple" /\ o.data = .seq its n/\its.size<=sizeLine/\Vals xs its.toList/\o.dict=none
def absV:Value->Option V
 | .none=>some .non
 | .bool b=>some (.bl b)
 | .int i _=>some (.int i)
 | .str x _=>some (.str x)
 | .bytes b _=>some (.byt b)
 | .float b _=>some (.flt b)
 | .ref a=>some (.ref a)
 | .type n=>some (.ty n)
 | _=>none
theorem RelV.abs {x:V}{u:Value}(r:RelV x u):absV u=some x:=by
 cases x with
 | non=>cases r;rfl
 | bl _=>cases r;rfl
 | int _=>obtain⟨t,rfl⟩:=r;rfl
 | str _=>obtain⟨t,rfl⟩:=r;rfl
 | byt _=>obtain⟨t,rfl⟩:=r;rfl
 | flt _=>obtain⟨t,rfl⟩:=r;rfl
 | ref _=>cases r;rfl
 | ty _=>cases r;rfl
theorem RelV.inj {x y:V}{u:Value}(r:RelV x u)(q:RelV y u):x=y:=A0R (r.abs.symm.trans q.abs)
theorem Vals.inj:∀ {xs ys:List V} {us:List Value},Vals xs us->Vals ys us->xs=ys
 | _,_,_,.nil,.nil=>rfl
 | _,_,_,.cons r t,.cons r' t'=>by rw[r.inj r',Vals.inj t t']
section
variable {X:Cx}{pins:List (Addr×Obj)}{σ:St}{H:Hp}{s:Shared}{a:Addr}{xs ys:List V}
theorem SqL.of {K:PySem.W.Frag}(h:H a=some (.lst xs)):SqL K H a xs:=.inl (.inl h)
theorem SqT.of {K:PySem.W.Frag}(h:H a=some (.tup xs)):SqT K H a xs:=.inl (.inl h)
theorem Inv.list (I:Inv X pins σ H s)(h:SqL X.K H a xs):∃ its:List Value,Vals xs its/\PlainL s.heap a its.toArray/\xs.length<=sizeLine:=by
 rcases h with h | ⟨o,its,n,hk,hc,hd,hs,hz,r⟩
 . obtain⟨z,its,n,r,e⟩:=h.ok I.hok
   exact⟨its,r,⟨_,n,e,rfl,rfl,rfl⟩,z⟩
 refine⟨its.toList,r,⟨o,n,I.kIn a o hk,hc,hd,by simpa using hs⟩,?_⟩
 have e:=r.length
 simp only[Array.length_toList] at e
 omega
theorem Inv.tuple (I:Inv X pins σ H s)(h:SqT X.K H a xs):∃ its:List Value,Vals xs its/\IsTup s.heap a its.toArray/\xs.length<=sizeLine:=by
 rcases h with h | ⟨o,its,n,hk,hc,hs,hz,r,hn⟩
 . obtain⟨z,its,r,p⟩:=h.ok I.hok
   exact⟨its,r,p.tup,z⟩
 refine⟨its.toList,r,⟨o,I.kIn a o hk,hc,n,by simpa using hs⟩,?_⟩
 have e:=r.length
 simp only[Array.length_toList] at e
 omega
theorem Inv.list_inj (I:Inv X pins σ H s)(h:SqL X.K H a xs)(h':SqL X.K H a ys):xs=ys:=by
 obtain⟨its,r,⟨o,n,e,_,_,d⟩,_⟩:=I.list h
 obtain⟨its',r',⟨o',n',e',_,_,d'⟩,_⟩:=I.list h'
 rw[e] at e';cases e'
 rw[d] at d'
 injection d' with d1 _
 have:its=its':=by simpa using congrArg Array.toList d1
 subst this
 exact r.inj r'
theorem Inv.tuple_inj (I:Inv X pins σ H s)(h:SqT X.K H a xs)(h':SqT X.K H a ys):xs=ys:=by
 obtain⟨its,r,⟨o,e,_,n,d⟩,_⟩:=I.tuple h
 obtain⟨its',r',⟨o',e',_,n',d'⟩,_⟩:=I.tuple h'
 rw[e] at e';cases e'
 rw[d] at d'
 injection d' with d1 _
 have:its=its':=by simpa using congrArg Array.toList d1
 subst this
 exact r.inj r'
end
abbrev Cx.wish (X:Cx)(E:Value->Shared->Prop):Cx:={ X with xe:=E }
abbrev Cx.nox (X:Cx):Cx:=X.wish λ_ _=>False
theorem Cx.Ok.wish {X:Cx}(ok:X.Ok)(E:Value->Shared->Prop):(X.wish E).Ok:=
 ⟨ok.mod,ok.kind,ok.glob,ok.blt,ok.above,ok.inj,ok.has,ok.cab,ok.hd,ok.frames,ok.stk,ok.exf,ok.bs,ok.bsz,ok.noex,ok.exfs,ok.funs,ok.frf⟩
theorem Cx.Ok.unwish {X:Cx}{E:Value->Shared->Prop}(ok:(X.wish E).Ok):X.Ok:=
 ⟨ok.mod,ok.kind,ok.glob,ok.blt,ok.above,ok.inj,ok.has,ok.cab,ok.hd,ok.frames,ok.stk,ok.exf,ok.bs,ok.bsz,ok.noex,ok.exfs,ok.funs,ok.frf⟩
section
variable {X:Cx}{pins:List (Addr×Obj)}{σ:St}{H:Hp}{s:Shared}{E:Value->Shared->Prop}
theorem Inv.wish (I:Inv X pins σ H s)(E:Value->Shared->Prop):Inv (X.wish E) pins σ H s:=⟨I.ok.wish E,I.os,I.bare,I.base,I.loc,I.cell,I.free,I.freeC,I.pin,I.hok,I.len⟩
theorem Inv.unwish (I:Inv (X.wish E) pins σ H s):Inv X pins σ H s:=⟨I.ok.unwish,I.os,I.bare,I.base,I.loc,I.cell,I.free,I.freeC,I.pin,I.hok,I.len⟩
theorem SP.unwish {D:Ends}{f:Flow}{s':Shared}(h:SP (X.wish E) pins D f s'):SP X pins D f s':=by
 cases f with
 | next=>obtain⟨σ',H',I,q⟩:=h;exact⟨σ',H',I.unwish,q⟩
 | brk=>obtain⟨σ',H',I,q⟩:=h;exact⟨σ',H',I.unwish,q⟩
 | cont=>obtain⟨σ',H',I,q⟩:=h;exact⟨σ',H',I.unwish,q⟩
 | ret u=>obtain⟨v,σ',H',I,r,q⟩:=h;exact⟨v,σ',H',I.unwish,r,q⟩
theorem PSs.nox {st:List Stmt}{t:TS}(h:PSs X.nox st t):PSs X st t:=λpins s σ H D I hw=>
 A1O (h pins s σ H D (I.wish _) hw) (λ_ _ q=>q.unwish) λ_ _ z=>False.elim z
end
section
variable {X:Cx}{st:Stmt}{rest:List Stmt}{t u:TS}{e:Expr}{te:TE}{pos:Pos}
def ar2:TS:=λD σ H=>D.nx σ H
def aD6 (t u:TS):TS:=λD σ H=>t { D with nx:=u D } σ H
theorem Am:PSs X [] ar2:=λ_ _ σ H _ I h=>A48 ⟨σ,H,I,h⟩
theorem A5 (h1:PS X st t) (h2:PSs X rest u):PSs X (st :: rest) (aD6 t u):=by
 intro pins s σ H D I h
 refine wpAny_execs_cons (thn (h1 pins s σ H { D with nx:=u D } I h) λf s1 q=>?_)
 cases f with
 | next=>
   obtain⟨σ',H',I',q⟩:=q
   exact h2 pins s1 σ' H' D I' q
 | ret v=>exact q
 | brk=>exact q
 | cont=>exact q
theorem A7 (h1:PS X st t):PSs X [st] t:=by
 intro pins s σ H D I h
 refine wpAny_execs_cons (thn (h1 pins s σ H D I h) λf s1 q=>?_)
 cases f with
 | next=>exact A48 q
 | ret v=>exact q
 | brk=>exact q
 | cont=>exact q
theorem Inv.quiet {pins:List (Addr×Obj)}{σ:St}{H:Hp}{s:Shared}(I:Inv X pins σ H s):interactive X.env=false:=by simp[interactive,I.ok.kind]
def aw5 (te:TE):TS:=λD σ H=>te σ H λ_ H1=>D.nx σ H1
theorem Bf (he:PE X e te)(hs:swapsWith e none pos.line X.env=pure false:=by ac_nf):PS X (.Expr e pos) (aw5 te):=by
 intro pins s σ H D I h
 exact wpAny_Expr_any (thn (he pins s σ H _ I h) λv s1 ⟨x,H1,I1,r1,q1⟩=>⟨σ,H1,I1,q1⟩) I.quiet hs
def aJ2 (te:TE):TS:=λD σ H=>te σ H D.rt
theorem Ap (he:PE X e te):PS X (.Return (some e) pos) (aJ2 te):=by
 intro pins s σ H D I h
 exact wpAny_Return_some (thn (he pins s σ H _ I h) λv s1 ⟨x,H1,I1,r1,q1⟩=>⟨x,σ,H1,I1,r1,q1⟩)
def aI5 (c:TT)(t u:TS):TS:=λD σ H=>c σ H λb H1=>if b=true then t D σ H1 else u D σ H1
theorem Bc {c:Expr}{a b:List Stmt}{tc:TT}(hc:PT X c tc)(ha:PSs X a t)(hb:PSs X b u):PS X (.If c a b pos) (aI5 tc t u):=by
 intro pins s σ H D I h
 refine wpAny_If (thn (hc pins s σ H _ I h) λd s1 ⟨H1,I1,q1⟩=>?_)
 cases d with
 | true=>exact ha pins s1 σ H1 D I1 q1
 | false=>exact hb pins s1 σ H1 D I1 q1
def az4:TS:=λ_ _ _=>False
theorem a98:PS X st az4:=λ_ _ _ _ _ _ h=>h.elim
end
abbrev TG:=V->St->Hp->(St->Hp->Prop)->Prop
abbrev TGs:=List V->St->Hp->(St->Hp->Prop)->Prop
def PG (X:Cx)(target:Expr)(t:TG):Prop:=
 ∀(pins:List (Addr×Obj)) (s:Shared) (σ:St) (H:Hp) (v:V) (u:Value) (Q:St->Hp->Prop),Inv X pins σ H s->RelV v u->t v σ H Q ->
  wpAny (model X.prog X.w) X.A (assign target X.env u) (λ_ s'=>∃ σ' H',Inv X pins σ' H' s'/\Q σ' H') X.xe s
def PGs (X:Cx)(ts:List Expr)(t:TGs):Prop:=
 ∀(pins:List (Addr×Obj)) (s:Shared) (σ:St) (H:Hp) (vs:List V) (us:List Value) (Q:St->Hp->Prop),Inv X pins σ H s->Vals vs us->t vs σ H Q ->
  wpAny (model X.prog X.w) X.A (assignInOrder ((assignEach ts X.env).map (·.2)) us) (λ_ s'=>∃ σ' H',Inv X pins σ' H' s'/\Q σ' H') X.xe s
abbrev aC9:=V->V->V->Hp->(Hp->Prop)->Prop
def aG8 (X:Cx)(t:aC9):Prop:=
 ∀(pins:List (Addr×Obj)) (s:Shared) (σ:St) (H:Hp) (o i v:V) (ov iv u:Value) (Q:Hp->Prop),Inv X pins σ H s->RelV o ov->RelV i iv->RelV v u->t o i v H Q ->
  wpAny (model X.prog X.w) X.A (setItem ov iv u) (λ_ s'=>∃ H',Inv X pins σ H' s'/\Q H') X.xe s
section
variable {X:Cx}{pos:Pos}
def Jv (i:Nat):TG:=λv σ H Q=>Q (σ.set i (some v)) H
theorem B4 {i:Nat}{x:Str}(hN:X.N.Nodup)(hi:X.N[i]? = some x)(hx:Loc X.env.scope x)(hf:X.fn x=true\/X.env.scope.names.lookup x=some .local:=by with_unfolding_all (first | exact .inl rfl | exact .inr rfl | assumption)):PG X (.Name x pos) (Jv i):=by
 intro pins s σ H v u Q I r h
 exact wpAny_assign_Name (Ly I hN hi hx r (λs' I'=>⟨_,H,I',h⟩) hf)
def aq6:TGs:=λvs σ H Q=>vs=[]/\Q σ H
def Pi (t:TG)(u:TGs):TGs:=λvs σ H Q=>∃ v r,vs=v :: r/\t v σ H fun σ' H'=>u r σ' H' Q
theorem Ul:PGs X [] aq6:=by
 intro pins s σ H vs us Q I r h
 obtain⟨e,h⟩:=h
 subst e
 cases r
 exact assignInOrder_nil ⟨σ,H,I,h⟩
theorem Jg {e:Expr}{es:List Expr}{t:TG}{u:TGs}(h1:PG X e t)(h2:PGs X es u)
  (hs:(assignEach (e :: es) X.env).map (·.2)=assign e X.env :: (assignEach es X.env).map (·.2):=by ac_nf):PGs X (e :: es) (Pi t u):=by
 intro pins s σ H vs us Q I r h
 obtain⟨v,vr,e1,h⟩:=h
 subst e1
 cases r with
 | cons r rr=>
   rw[hs]
   refine assignInOrder_cons (thn (h1 pins s σ H _ _ _ I r h) λ_ s1 ⟨σ1,H1,I1,q1⟩=>?_)
   exact h2 pins s1 σ1 H1 _ _ Q I1 rr q1
def al7 (K:PySem.W.Frag)(n:Nat)(t:TGs):TG:=λv σ H Q=>∃ a xs,v = .ref a/\SqT K H a xs/\xs.length=n/\t xs σ H Q
theorem as3 {es:List Expr}{k:Nat}{t:TGs}{n:Nat}(hc:X.calm=true)(h:PGs X es t)
  (hn:(assignEach es X.env).length=n:=by ac_nf) (hst:(assignEach es X.env).findIdx? (·.1)=none:=by ac_nf):PG X (.Tuple es k pos) (al7 X.K n t):=by
 intro pins s σ H v u Q I r hw
 obtain⟨a,xs,e1,hq,hl,hw⟩:=hw
 subst e1
 cases r
 obtain⟨its,rv,ht,hz⟩:=I.tuple hq
 refine assign_Tuple_tuple (I.ok.hd hc) ht (by simp[hn,<- hl,rv.length]) hst λh' hx=>?_
 have I1:Inv X pins σ H { s with heap:=h' }:=I.kept (t':=s.toks) λb o e=>hx b o (A0J (A09 e)) e
 exact h pins _ σ H xs _ Q I1 (by simpa using rv) hw
def aG7 (to ti:TE)(t:aC9):TG:=λv σ H Q=>to σ H λo H1=>ti σ H1 λi H2=>t o i v H2 λH3=>Q σ H3
theorem ay4 {o i:Expr}{to ti:TE}{t:aC9}(ho:PE X o to)(hi:PE X i ti)(hs:aG8 X t)
  (ha:∀ v,assign (.Subscript o i pos) X.env v=(do
   let ov <- holding [v] (eval o X.env)
   let iv <- holding [v,ov] (eval i X.env)
   standAt pos
   holding [v,ov,iv] (setItem ov iv v)
   release [v,ov,iv] []):=by intro _;ac_nf):PG X (.Subscript o i pos) (aG7 to ti t):=by
 intro pins s σ H v u Q I r h
 rw[ha]
 refine A01 (A1F (thn (ho pins s σ H _ I h) λov s1 ⟨x,H1,I1,r1,q1⟩=>?_))
 refine A01 (A1F (thn (hi pins s1 σ H1 _ I1 q1) λiv s2 ⟨y,H2,I2,r2,q2⟩=>?_))
 refine A01 (A3X (A01 (A1F (thn (hs pins s2 σ H2 x y v ov iv u _ I2 r1 r2 r q2) λ_ s3 ⟨H3,I3,q3⟩=>?_))))
 exact wpAny_release ⟨σ,H3,I3,q3⟩
def aq8 (te:TE)(g:TG):TS:=λD σ H=>te σ H λx H1=>g x σ H1 D.nx
theorem az2 {tg e:Expr}{te:TE}{g:TG}(he:PE X e te)(hg:PG X tg g)(hs:swapsWithSole [tg] e pos.line X.env=pure false:=by ac_nf)(hw:swappedStores [tg] e X.env=pure none:=by ac_nf)
  (h1:(assignEach [tg] X.env).map (·.2)=[assign tg X.env]:=by ac_nf):PS X (.Assign [tg] e pos) (aq8 te g):=by
 intro pins s σ H D I h
 refine wpAny_Assign_stores (thn (he pins s σ H _ I h) λv s1 ⟨x,H1,I1,r1,q1⟩=>?_) hs hw
 rw[h1]
 exact thn (hg pins s1 σ H1 x v _ I1 r1 q1) λ_ s2 q=>q
theorem Al {i:Nat}{x:Str}{e:Expr}{te:TE}{pos':Pos}(hN:X.N.Nodup)(hi:X.N[i]? = some x)(hx:Loc X.env.scope x)(he:PE X e te)(hs:swapsWith e (some (.Name x pos')) pos.line X.env=pure false:=by ac_nf)(hf:X.fn x=true\/X.env.scope.names.lookup x=some .local:=by with_unfolding_all (first | exact .inl rfl | exact .inr rfl | assumption)) :
  PS X (.Assign [.Name x pos'] e pos) (aq8 te (Jv i)):=by
 intro pins s σ H D I h
 refine wpAny_Assign_Name (thn (he pins s σ H _ I h) λv s1 ⟨y,H1,I1,r1,q1⟩=>?_) hs
 exact Ly I1 hN hi hx r1 (λs2 I2=>⟨_,H1,I2,q1⟩) hf
end
section
variable {X:Cx}{pos:Pos}
def ag1 (c:TT)(tb:TS):TS:=λD σ H=>∃ W:Nat->St->Hp->Prop,(∃ m,W m σ H)/\∀ m σ H,W m σ H ->
 c σ H λb H1=>if b=true then ∃ N:St->Hp->Prop,(∀ σ' H',N σ' H'->∃ m',m'<m/\W m' σ' H')/\tb { D with nx:=N,ct:=N,bk:=D.nx } σ H1 else D.nx σ H1
theorem Wn {c:Expr}{body:List Stmt}{tc:TT}{tb:TS}(hp:PassesOwn (model X.prog X.w) X.A X.env X.xe)(hc:PT X c tc)(hb:PSs X body tb):PS X (.While c body [] pos) (ag1 tc tb):=by
 intro pins s σ H D I h
 obtain⟨W,⟨m0,w0⟩,turn⟩:=h
 refine wpAny_While (codeAny_whileLoop (λn s'=>∃ σ' H',Inv X pins σ' H' s'/\W n σ' H') ?_ m0 ⟨σ,H,I,w0⟩)
 rintro n s1 ⟨σ1,H1,I1,w1⟩
 refine A2H hp (thn (hc pins s1 σ1 H1 _ I1 (turn n σ1 H1 w1)) λb s2 ⟨H2,I2,q2⟩=>?_)
 cases b with
 | true=>
   obtain ⟨N,hN,q2⟩:=q2
   rw[A11 rfl]
   refine A2H hp (thn (hb pins s2 σ1 H2 _ I2 q2) λf s3 q3=>?_)
   cases f with
   | next=>
     obtain⟨σ3,H3,I3,n3⟩:=q3
     obtain⟨m',hm,w3⟩:=hN σ3 H3 n3
     exact⟨m',hm,σ3,H3,I3,w3⟩
   | cont=>
     obtain⟨σ3,H3,I3,n3⟩:=q3
     obtain⟨m',hm,w3⟩:=hN σ3 H3 n3
     exact⟨m',hm,σ3,H3,I3,w3⟩
   | brk=>exact q3
   | ret v=>exact q3
 | false=>
   rw[A0Y A0D]
   exact A48 ⟨σ1,H2,I2,q2⟩
end
structure It where
 go:Nat->Hp->Prop
 yld:Nat->Hp->V->Hp->Prop
 stop:Nat->Hp->Prop
def Wk (X:Cx)(pins:List (Addr×Obj))(H:Hp)(b:Addr):Prop:=
 H b=none/\b≠X.env.locals/\b∉X.fs/\(b∈X.ex\/X.s₀.heap.objs.size<=b)/\(∀ x c,X.env.cells.lookup x=some c->c≠b)/\∀ p∈X.pn++pins,p.1≠b
theorem Inv.fpOk {X:Cx}{pins:List (Addr×Obj)}{σ:St}{H H':Hp}{s:Shared}{b:Addr}(I:Inv X pins σ H s)(hb:s.heap.objs.size<=b)(hn:H' b=none):Wk X pins H' b:=by
 refine⟨hn,A3N (A0U I.lt hb),I.nofs hb,.inr (A0L I.sz hb),λx c e z=>?_,λp hp z=>?_⟩
 . obtain⟨v,q⟩:=I.cell x c e
   exact absurd (A0U q.lt (by rw[z];exact hb)) (A26 _)
 exact absurd (A0U (A09 (I.pin p hp).1) (by rw[z];exact hb)) (A26 _)
structure aa7 (P:Program)(w:World)(K:PySem.W.Frag)(tg:Expr)(J:It)(fp:List Addr)(it:Addr)(tn:Nat->Heap->Prop):Prop where
 mem:it∈fp
 obj:∀ i h,tn i h->∀ b∈fp,∃ o,h.get? b=some o/\∀ v,o.data ≠ .cell v
 keep:∀ i h h',tn i h->(∀ b∈fp,∀ o,h.get? b=some o->h'.get? b=some o)->tn i h'
 item:∀(X:Cx),X.prog=P->X.w=w->X.K=K->X.calm=true->∀(i:Nat) (pins:List (Addr×Obj)) (s:Shared) (σ:St) (H:Hp) (E:Value->Shared->Prop),Inv X pins σ H s->(∀ b∈fp,Wk X pins H b)->tn i s.heap->J.go i H ->
  wpAny (model P w) X.A (pyNext (.ref it)) (λr s1=>∃ u,r=some u /\
   wpAny (model P w) X.A (letOwnedTupleGo tg (.ref it) u) (λ_ s2=>∃ x H',Inv X pins σ H' s2/\RelV x u/\J.yld i H x H'/\tn (i+1) s2.heap/\∀ b∈fp,H' b=none) E s1) E s
 done:∀(X:Cx),X.prog=P->X.w=w->X.K=K->X.calm=true->∀(i:Nat) (pins:List (Addr×Obj)) (s:Shared) (σ:St) (H:Hp) (E:Value->Shared->Prop),Inv X pins σ H s->(∀ b∈fp,Wk X pins H b)->tn i s.heap->J.stop i H ->
  wpAny (model P w) X.A (pyNext (.ref it)) (λr s1=>r=none/\Inv X pins σ H s1) E s
 self:∀(A:Around) (i:Nat) (s:Shared) (Q:Value->Shared->Prop) (E:Value->Shared->Prop),tn i s.heap->Q (.ref it) s->wpAny (model P w) A (pyIter (.ref it)) Q E s
abbrev TI:=St->Hp->(It->Hp->Prop)->Prop
def PIE (X:Cx)(pins:List (Addr×Obj))(σ:St)(tg:Expr)(R:It->Hp->Prop)(itv:Value)(s2:Shared):Prop:=
 ∃(it:Addr) (fp:List Addr) (tn:Nat->Heap->Prop) (J:It) (H':Hp),itv = .ref it/\Inv X pins σ H' s2/\aa7 X.prog X.w X.K tg J fp it tn/\tn 0 s2.heap/\(∀ b∈fp,Wk X pins H' b)/\R J H'
def PI (X:Cx)(tg iter:Expr)(wi:TI):Prop:=
 ∀(pins:List (Addr×Obj)) (s:Shared) (σ:St) (H:Hp) (R:It->Hp->Prop),Inv X pins σ H s->wi σ H R ->
  wpAny (model X.prog X.w) X.A (eval iter X.env) (λv s1=>wpAny (model X.prog X.w) X.A (pyIter v) (PIE X pins σ tg R) X.xe s1) X.xe s
theorem a03 {M:Model}{A:Around}{E:Value->Shared->Prop}{s:Shared}{tg:Expr}{it:Addr}{u:Value}{o:Obj}{n:String}{vs:Array Value}{Q:Unit->Shared->Prop}(ho:s.heap.get? it=some o)(hc:o.cls = .type n)(hd:o.data = .fields vs)
  (hn:["enumerate","zip","dict_itemiterator","dict_reverseitemiterator","odict_iterator","itertools.zip_longest","itertools.pairwise"].contains n=false) (hQ:Q () s):wpAny M A (letOwnedTupleGo tg (.ref it) u) Q E s:=by
 unfold letOwnedTupleGo
 cases tg<;>first
  | exact A06 hQ
  | (cases u<;>first
    | exact A06 hQ
    | (refine A01 (wpAny_load ho ?_)
       rw[hc,hd]
       show wpAny M A (if(["enumerate","zip","dict_itemiterator","dict_reverseitemiterator","odict_iterator","itertools.zip_longest","itertools.pairwise"].contains n&&vs[0]? == some (rawInt _))=true then _ else _) Q E s
       rw[A0Y (by intro h;rw[hn,Bool.false_and] at h;cases h)]
       exact A06 hQ))
def Itl (K:PySem.W.Frag)(a:Addr):It:=
 ⟨λi H=>∃ xs x,SqL K H a xs/\xs[i]? = some x,λi H x H'=>H'=H/\∀ xs,SqL K H a xs->xs[i]? = some x,λi H=>∃ xs,SqL K H a xs/\xs.length<=i⟩
def Itt (K:PySem.W.Frag)(a:Addr):It:=
 ⟨λi H=>∃ xs x,SqT K H a xs/\xs[i]? = some x,λi H x H'=>H'=H/\∀ xs,SqT K H a xs->xs[i]? = some x,λi H=>∃ xs,SqT K H a xs/\xs.length<=i⟩
def Itr (lo:Int)(n:Nat):It:=⟨λi _=>i<n,λi H x H'=>H'=H/\x = .int (lo+i),λi _=>n<=i⟩
theorem Z2 {P:Program}{w:World}{K:PySem.W.Frag}{tg:Expr}(a it:Addr):aa7 P w K tg (Itl K a) [it] it (λi h=>h.IsListIter it a i) where
 mem:=by simp
 obj:=λi h st b hb=>by
  have e:b=it:=by simpa using hb
  subst e
  obtain⟨o,e,c,d⟩:=st
  exact⟨o,e,λv z=>by rw[d] at z;cases z⟩
 keep:=λi h h' st k=>st.at λo e=>k it nofun o e
 item:=by
  intro X hP hw hK hc i pins s σ H E I hf st hg
  subst hP hw hK
  obtain⟨xs,x,hq,hx⟩:=hg
  obtain⟨its,rv,p,hz⟩:=I.list hq
  obtain⟨u,hu,ru⟩:=rv.get hx
  obtain⟨f0,f1,f2,f3,f4,f5⟩:=hf it nofun
  refine wpAny_pyNext_list_item st p.isList (x:=u) (by simpa using hu) λh' st' sb=>?_
  have I1:Inv X pins σ H { s with heap:=h' }:=I.turned (t':=s.toks) (λb o hb e=>(sb.2 b hb).trans e) f0 f1 f3 f4 f5
  obtain⟨o,e,c,d⟩:=id st'
  exact⟨u,rfl,a03 (s:={ s with heap:=h' }) e c d ∅ ⟨x,H,I1,ru,⟨rfl,λys hy=>by rw[I.list_inj hy hq];exact hx⟩,st',λb hb=>(hf b hb).1⟩⟩
 done:=by
  intro X hP hw hK hc i pins s σ H E I hf st hg
  subst hP hw hK
  obtain⟨xs,hq,hx⟩:=hg
  obtain⟨its,rv,p,hz⟩:=I.list hq
  obtain⟨f0,f1,f2,f3,f4,f5⟩:=hf it nofun
  have hl:=rv.length
  exact wpAny_pyNext_list_end (I.ok.hd hc) st p.isList (by simp;omega) λh' eb=>⟨rfl,I.turned (t':=s.toks) (λb o hb e=>eb b o hb e) f0 f1 f3 f4 f5⟩
 self:=λ_ _ _ _ _ st h=>wpAny_pyIter_listiter st h
theorem X4 {P:Program}{w:World}{K:PySem.W.Frag}{tg:Expr}(a it:Addr):aa7 P w K tg (Itt K a) [it] it (λi h=>h.IsTupleIter it a i) where
 mem:=by simp
 obj:=λi h st b hb=>by
  have e:b=it:=by simpa using hb
  subst e
  obtain⟨o,e,c,d⟩:=st
  exact⟨o,e,λv z=>by rw[d] at z;cases z⟩
 keep:=λi h h' st k=>st.at λo e=>k it nofun o e
 item:=by
  intro X hP hw hK hc i pins s σ H E I hf st hg
  subst hP hw hK
  obtain⟨xs,x,hq,hx⟩:=hg
  obtain⟨its,rv,p,hz⟩:=I.tuple hq
  obtain⟨u,hu,ru⟩:=rv.get hx
  obtain⟨f0,f1,f2,f3,f4,f5⟩:=hf it nofun
  refine wpAny_pyNext_tuple_item st (show s.heap.IsTuple a its.toArray from p) (x:=u) (by simpa using hu) λh' st' sb=>?_
  have I1:Inv X pins σ H { s with heap:=h' }:=I.turned (t':=s.toks) (λb o hb e=>(sb.2 b hb).trans e) f0 f1 f3 f4 f5
  obtain⟨o,e,c,d⟩:=id st'
  exact⟨u,rfl,a03 (s:={ s with heap:=h' }) e c d ∅ ⟨x,H,I1,ru,⟨rfl,λys hy=>by rw[I.tuple_inj hy hq];exact hx⟩,st',λb hb=>(hf b hb).1⟩⟩
 done:=by
  intro X hP hw hK hc i pins s σ H E I hf st hg
  subst hP hw hK
  obtain⟨xs,hq,hx⟩:=hg
  obtain⟨its,rv,p,hz⟩:=I.tuple hq
  obtain⟨f0,f1,f2,f3,f4,f5⟩:=hf it nofun
  have hl:=rv.length
  exact wpAny_pyNext_tuple_end (I.ok.hd hc) st (show s.heap.IsTuple a its.toArray from p) (by simp;omega) λh' eb=>⟨rfl,I.turned (t':=s.toks) (λb o hb e=>eb b o hb e) f0 f1 f3 f4 f5⟩
 self:=λ_ _ _ _ _ st h=>wpAny_pyIter_tupleiter st h
theorem Xf {P:Program}{w:World}{K:PySem.W.Frag}{tg:Expr}(it:Addr)(lo:Int)(n:Nat):aa7 P w K tg (Itr lo n) [it] it (λi h=>IsRangeIter h it (lo+(i:Nat)*1) ((n:Int)-(i:Nat)) 1) where
 mem:=by simp
 obj:=λi h st b hb=>by
  have e:b=it:=by simpa using hb
  subst e
  exact⟨_,st,λv z=>by
   have z':Data.fields _=Data.cell v:=z
   cases z'⟩
 keep:=λi h h' st k=>k it nofun _ st
 item:=by
  intro X hP hw hK hc i pins s σ H E I hf st hg
  subst hP hw hK
  obtain⟨f0,f1,f2,f3,f4,f5⟩:=hf it nofun
  have W:=Walks.range (prog:=X.prog) (w:=X.w) (I.ok.hd hc) it lo 1 n
  refine W.item i s _ _ hg st λv h' tk hv st' kk=>?_
  obtain⟨t,rfl⟩:=hv
  have I1:Inv X pins σ H { s with heap:=h',toks:=tk }:=I.turned (λb o hb e=>kk b o (by simpa using hb) e) f0 f1 f3 f4 f5
  refine⟨_,rfl,a03 (s:={ s with heap:=h',toks:=tk }) (n:="range_iterator") st' rfl rfl ∅ ⟨.int (lo+i),H,I1,⟨t,?_⟩,⟨rfl,rfl⟩,st',λb hb=>(hf b hb).1⟩⟩
  rw[Int.mul_one]
 done:=by
  intro X hP hw hK hc i pins s σ H E I hf st hg
  subst hP hw hK
  obtain⟨f0,f1,f2,f3,f4,f5⟩:=hf it nofun
  exact wpAny_pyNext_range_end (I.ok.hd hc) st (by have:n<=i:=hg;omega) λh' eb=>⟨rfl,I.turned (t':=s.toks) (λb o hb e=>eb b o hb e) f0 f1 f3 f4 f5⟩
 self:=λ_ _ _ _ _ st h=>wpAny_pyIter_rangeiter st h
section
variable {X:Cx}{tg:Expr}
theorem W4 {pins:List (Addr×Obj)}{σ:St}{H:Hp}{s:Shared}{R:It->Hp->Prop}{E:Value->Shared->Prop}{lo hi:Int}{t u v:Tok}{tk:Nat}(I:Inv X pins σ H s)(h1:-(2 ^ 62)<=lo)(h2:lo<2 ^ 62)(h3:-(2 ^ 62)<=hi)(h4:hi<2 ^ 62)
  (q:R (Itr lo (hi-lo).toNat) H):wpAny (model X.prog X.w) X.A (pyIter (.ref s.heap.objs.size)) (PIE X pins σ tg R) E { s with heap:=s.heap.push { cls:=.type "range",data:=.fields #[.int lo t,.int hi u,.int 1 v] },toks:=tk }:=by
 refine wpAny_pyIter_range (IsRange.new ..) (small_one h1 h2 h3 h4) ?_
 have I1:Inv X pins σ H { s with heap:=s.heap.push { cls:=.type "range",data:=.fields #[.int lo t,.int hi u,.int 1 v] },toks:=tk }:=I.kept λb o e=>A02 _ e
 refine⟨(s.heap.push { cls:=.type "range",data:=.fields #[.int lo t,.int hi u,.int 1 v] }).objs.size,[(s.heap.push { cls:=.type "range",data:=.fields #[.int lo t,.int hi u,.int 1 v] }).objs.size],_,_,H,rfl,
  I1.kept (t':=tk) λb o e=>A02 _ e,Xf _ lo (hi-lo).toNat,?_,λb hb=>?_,q⟩
 . have e1:lo+((0:Nat):Int)*1=lo:=by simp
   have e2:(((hi-lo).toNat:Nat):Int)-((0:Nat):Int)=Builtin.Range.rangeSize lo hi 1:=by rw[rangeSize_one];split<;>omega
   show IsRangeIter _ _ (lo+((0:Nat):Int)*1) ((((hi-lo).toNat:Nat):Int)-((0:Nat):Int)) 1
   rw[e1,e2]
   exact A0E _ rfl
 have e:b=(s.heap.push { cls:=.type "range",data:=.fields #[.int lo t,.int hi u,.int 1 v] }).objs.size:=by simpa using hb
 subst e
 exact I1.fpOk (A07 _) (I1.hok.fresh (A07 _))
def ay7 (ta:TA):TI:=fun σ H R=>ta σ H λvs H1=>∃ j:Int,vs=[.int j] /\ -(2 ^ 62)<=j/\j<2 ^ 62/\R (Itr 0 j.toNat) H1
def ay5 (ta:TA):TI:=fun σ H R=>ta σ H λvs H1=>∃ i j:Int,vs=[.int i,.int j]/\(-(2 ^ 62)<=i/\i<2 ^ 62 /\ -(2 ^ 62)<=j/\j<2 ^ 62)/\R (Itr i (j-i).toNat) H1
theorem Kk {a:Expr}{ta:TA}{p pos:Pos}(hg:Gl X "range")(hm:X.mg "range" = none)(ha:PA X [a] ta)(hs:starEach [a] X.env=[(false,eval a X.env)]:=by ac_nf):PI X tg (.Call (.Name "range" p) [a] [] pos) (ay7 ta):=by
 intro pins s σ H R I h
 refine Call_ (Li I hg hm boot_range (A1T (thn (ha pos pins s σ H _ I h) λus s1 ⟨vs,H1,I1,r1,q1⟩=>?_) hs rfl))
 obtain⟨j,e,q1,q2,q⟩:=q1
 subst e
 cases r1 with
 | cons r rr=>
   cases rr
   obtain⟨t,rfl⟩:=r
   exact call_range_1 (W4 I1 (by omega) (by omega) q1 q2 (by simpa using q))
theorem Yf {a b:Expr}{ta:TA}{p pos:Pos}(hg:Gl X "range")(hm:X.mg "range" = none)(ha:PA X [a,b] ta)(hs:starEach [a,b] X.env=[(false,eval a X.env),(false,eval b X.env)]:=by ac_nf)(hs2:starEach [b] X.env=[(false,eval b X.env)]:=by ac_nf) :
  PI X tg (.Call (.Name "range" p) [a,b] [] pos) (ay5 ta):=by
 intro pins s σ H R I h
 refine Call_ (Li I hg hm boot_range (A1T (thn (ha pos pins s σ H _ I h) λus s1 ⟨vs,H1,I1,r1,q1⟩=>?_) (by rw[hs,hs2]) (by rw[hs2];rfl)))
 obtain⟨i,j,e,⟨q1,q2,q3,q4⟩,q⟩:=q1
 subst e
 cases r1 with
 | cons r rr=>
   cases rr with
   | cons r' rr=>
     cases rr
     obtain⟨t,rfl⟩:=r
     obtain⟨t',rfl⟩:=r'
     exact call_range_2 (W4 I1 q1 q2 q3 q4 q)
def aI9 (wi:TI)(g:TG)(tb:TS):TS:=λD σ H=>wi σ H λJ H1=>∃ W:Nat->Nat->St->Hp->Prop,(∃ m,W 0 m σ H1)/\∀ i m σ H,W i m σ H ->
 (J.stop i H/\D.nx σ H)\/(J.go i H/\∃ N:St->Hp->Prop,(∀ σ' H',N σ' H'->∃ m',m'<m/\W (i+1) m' σ' H')/\∀ x H',J.yld i H x H'->g x σ H' fun σ2 H2=>tb { D with nx:=N,ct:=N,bk:=D.nx } σ2 H2)
def Tc (fp:List Addr)(h:Heap):List (Addr×Obj):=fp.filterMap λb=>(h.get? b).map λo=>(b,o)
theorem Jk {fp:List Addr}{h:Heap}{b:Addr}{o:Obj}(hb:b∈fp)(e:h.get? b=some o):(b,o)∈Tc fp h:=List.mem_filterMap.mpr ⟨b,hb,by rw[e];rfl⟩
theorem a67 {fp:List Addr} {h:Heap} {p:Addr×Obj} (hp:p∈Tc fp h):p.1∈fp/\h.get? p.1=some p.2:=by
 obtain⟨b,hb,e⟩:=List.mem_filterMap.mp hp
 cases q:h.get? b with
 | none=>rw[q] at e;cases e
 | some o=>
   rw[q] at e
   have e':(b,o)=p:=A0R e
   subst e'
   exact⟨hb,q⟩
theorem Inv.pinned {pins:List (Addr×Obj)}{σ:St}{H:Hp}{s:Shared}{fp:List Addr}(I:Inv X pins σ H s)(hf:∀ b∈fp,Wk X pins H b)(ho:∀ b∈fp,∃ o,s.heap.get? b=some o/\∀ v,o.data ≠ .cell v):Inv X (pins++Tc fp s.heap) σ H s:=
 I.pins_of λp hp=>(A0B.mp hp).elim (λz=>I.pin p (A0M _ z)) λz=>by
  obtain⟨hb,e⟩:=a67 z
  obtain⟨f0,f1,f2,_⟩:=hf p.1 hb
  obtain⟨o,e',d⟩:=ho p.1 hb
  rw[e] at e';cases e'
  exact⟨e,f0,f1,f2,d⟩
theorem Inv.unpinned {pins pl:List (Addr×Obj)}{σ:St}{H:Hp}{s:Shared}(I:Inv X (pins++pl) σ H s):Inv X pins σ H s:=I.pins_of λp hp=>I.pin p (A0M _ (A0T _ hp))
theorem Hi {iter:Expr}{body:List Stmt}{wi:TI}{g:TG}{tb:TS}{pos:Pos}(hp:PassesOwn (model X.prog X.w) X.A X.env X.xe)(hc:X.calm=true)(hi:PI X tg iter wi)(hg:PG X tg g)(hb:PSs X body tb)
  (hs:∀ x,foldedSetIterable iter X.env x=pure x:=by intro _;ac_nf):PS X (.For tg iter body [] pos) (aI9 wi g tb):=by
 intro pins s σ H D I h
 refine wpAny_For (thn (hi pins s σ H _ I h) λv s1 h1=>thn h1 λitv s2 h2=>?_) hs
 obtain⟨it,fp,tn,J,H2,e,I2,T,st2,f2,W,⟨m0,w0⟩,turn⟩:=h2
 subst e
 have stat:∀ {H':Hp},(∀ b∈fp,H' b=none)->∀ b∈fp,Wk X pins H' b:=λhn b hb=>⟨hn b hb,(f2 b hb).2⟩
 refine codeAny_forLoop_any (λn s'=>∃ i σ' H',Inv X pins σ' H' s'/\tn i s'.heap/\(∀ b∈fp,H' b=none)/\W i n σ' H') ?_ m0 ⟨0,σ,H2,I2,st2,λb hb=>(f2 b hb).1,w0⟩
 rintro n s3 ⟨i,σ3,H3,I3,st3,fr3,w3⟩
 rcases turn i n σ3 H3 w3 with ⟨stop,qn⟩ | ⟨go,N,hN,step⟩
 . refine A2H hp (thn (T.done X rfl rfl rfl hc i pins s3 σ3 H3 X.xe I3 (stat fr3) st3 stop) λr s4 ⟨hr,I4⟩=>?_)
   subst hr
   exact A48 ⟨σ3,H3,I4,qn⟩
 refine A2H hp (thn (T.item X rfl rfl rfl hc i pins s3 σ3 H3 X.xe I3 (stat fr3) st3 go) λr s4 ⟨u,hr,h4⟩=>?_)
 subst hr
 refine A2H hp (thn h4 λ_ s5 ⟨x,H5,I5,r5,y5,st5,fr5⟩=>?_)
 have I5':=I5.pinned (stat fr5) (T.obj _ _ st5)
 refine A2H hp (thn (hg _ s5 σ3 H5 x u _ I5' r5 (step x H5 y5)) λ_ s6 ⟨σ6,H6,I6,q6⟩=>?_)
 refine A2H hp (thn (hb _ s6 σ6 H6 _ I6 q6) λf s7 q7=>?_)
 have again:∀ {σ7:St} {H7:Hp},Inv X (pins++Tc fp s5.heap) σ7 H7 s7->N σ7 H7->∃ m,m<n/\∃ i σ' H',Inv X pins σ' H' s7/\tn i s7.heap/\(∀ b∈fp,H' b=none)/\W i m σ' H':=fun {σ7 H7} I7 n7=>by
  obtain⟨m',hm,w7⟩:=hN σ7 H7 n7
  refine⟨m',hm,i+1,σ7,H7,I7.unpinned,T.keep _ _ _ st5 λb hb o e=>(I7.pin (b,o) (A0M _ (A0M _ (Jk hb e)))).1,λb hb=>?_,w7⟩
  obtain⟨o,e,d⟩:=T.obj _ _ st5 b hb
  exact(I7.pin (b,o) (A0M _ (A0M _ (Jk hb e)))).2.1
 cases f with
 | next=>obtain⟨σ7,H7,I7,n7⟩:=q7;exact again I7 n7
 | cont=>obtain⟨σ7,H7,I7,n7⟩:=q7;exact again I7 n7
 | brk=>obtain⟨σ7,H7,I7,q7⟩:=q7;exact⟨σ7,H7,I7.unpinned,q7⟩
 | ret v=>obtain⟨x7,σ7,H7,I7,r7,q7⟩:=q7;exact⟨x7,σ7,H7,I7.unpinned,r7,q7⟩
end
abbrev R2:=V->V->Hp->VK->Prop
def OpR (X:Cx)(f:Value->Value->Sem Value)(r:R2):Prop:=
 ∀(pins:List (Addr×Obj)) (s:Shared) (σ:St) (H:Hp) (x y:V) (v u:Value) (Q:VK),Inv X pins σ H s->RelV x v->RelV y u->r x y H Q ->
  wpAny (model X.prog X.w) X.A (f v u) (EP X pins σ Q) X.xe s
def UnR (X:Cx)(f:Value->Sem Value)(r:V->Hp->VK->Prop):Prop:=
 ∀(pins:List (Addr×Obj)) (s:Shared) (σ:St) (H:Hp) (x:V) (v:Value) (Q:VK),Inv X pins σ H s->RelV x v->r x H Q ->
  wpAny (model X.prog X.w) X.A (f v) (EP X pins σ Q) X.xe s
def CallR (X:Cx)(f:Value)(r:List V->Hp->VK->Prop):Prop:=
 ∀(pins:List (Addr×Obj)) (s:Shared) (σ:St) (H:Hp) (xs:List V) (us:List Value) (Q:VK),Inv X pins σ H s->Vals xs us->r xs H Q ->
  wpAny (model X.prog X.w) X.A (call f us) (EP X pins σ Q) X.xe s
def TruR (X:Cx)(r:V->Hp->(Bool->Hp->Prop)->Prop):Prop:=
 ∀(pins:List (Addr×Obj)) (s:Shared) (σ:St) (H:Hp) (x:V) (v:Value) (Q:Bool->Hp->Prop),Inv X pins σ H s->RelV x v->r x H Q ->
  wpAny (model X.prog X.w) X.A (truthy v) (TP X pins σ Q) X.xe s
def tOp (r:R2)(ta tb:TE):TE:=fun σ H Q=>ta σ H λx H1=>tb σ H1 λy H2=>r x y H2 Q
def tUn (r:V->Hp->VK->Prop)(ta:TE):TE:=fun σ H Q=>ta σ H λx H1=>r x H1 Q
def rI (C:Int->Int->Prop)(g:Int->Int->V):R2:=λx y H Q=>∃ i j,x = .int i/\y = .int j/\C i j/\Q (g i j) H
def rI0 (g:Int->Int->V):R2:=λx y H Q=>∃ i j,x = .int i/\y = .int j/\Q (g i j) H
def rU (g:Int->V):V->Hp->VK->Prop:=λx H Q=>∃ i,x = .int i/\Q (g i) H
section
variable {X:Cx}{a b c:Expr}{ta tb tc:TE}{pos:Pos}
theorem aG2 (ha:PE X a ta)(hb:PE X b tb){pins:List (Addr×Obj)}{s:Shared}{σ:St}{H:Hp}{R:V->V->Hp->Prop}(I:Inv X pins σ H s)
  (h:ta σ H λx H1=>tb σ H1 λy H2=>R x y H2) {Q:Value->Shared->Prop} {f:Value->Value->Sem Value}
  (hf:∀ v u s2 x y H2,Inv X pins σ H2 s2->RelV x v->RelV y u->R x y H2->wpAny (model X.prog X.w) X.A (f v u) Q X.xe s2) :
  wpAny (model X.prog X.w) X.A (eval a X.env) (λv s₁=>wpAny (model X.prog X.w) X.A (eval b X.env) (λu s₂=>wpAny (model X.prog X.w) X.A (f v u) Q X.xe s₂) X.xe s₁) X.xe s:=by
 refine thn (ha pins s σ H _ I h) λv s1 ⟨x,H1,I1,r1,q1⟩=>?_
 refine thn (hb pins s1 σ H1 _ I1 q1) λu s2 ⟨y,H2,I2,r2,q2⟩=>?_
 exact hf v u s2 x y H2 I2 r1 r2 q2
theorem B3 {op:Operator}{r:R2}(ho:OpR X (binaryOp op) r)(ha:PE X a ta)(hb:PE X b tb):PE X (.BinOp a op b pos) (tOp r ta tb):=by
 intro pins s σ H Q I h
 exact wpAny_BinOp (aG2 ha hb I h λv u s2 x y H2 I2 rx ry q=>ho pins s2 σ H2 x y v u Q I2 rx ry q)
theorem aa4 {op:UnaryOp}{r:V->Hp->VK->Prop}(ho:UnR X (unaryOp op) r)(ha:PE X a ta):PE X (.UnaryOp op a pos) (tUn r ta):=by
 intro pins s σ H Q I h
 exact UnaryOp_ (thn (ha pins s σ H _ I h) λv s1 ⟨x,H1,I1,r1,q1⟩=>ho pins s1 σ H1 x v Q I1 r1 q1)
theorem opI {f:Value->Value->Sem Value}{C:Int->Int->Prop}{g:Int->Int->Int}
  (rule:∀(i j:Int) (t u:Tok) (s:Shared) (Q:Value->Shared->Prop) (E:Value->Shared->Prop),C i j->Q (.int (g i j) s.toks) { s with toks:=s.toks+1 }->wpAny (model X.prog X.w) X.A (f (.int i t) (.int j u)) Q E s) :
  OpR X f (rI C λi j=>.int (g i j)):=by
 intro pins s σ H x y v u Q I rx ry h
 obtain⟨i,j,rfl,rfl,hc,q⟩:=h
 obtain⟨t,rfl⟩:=rx
 obtain⟨t',rfl⟩:=ry
 exact rule i j t t' s _ _ hc ⟨.int (g i j),H,I.tok _,⟨_,rfl⟩,q⟩
theorem aG1 {f:Value->Value->Sem Value}{g:Int->Int->Int}
  (rule:∀(i j:Int) (t u:Tok) (s:Shared) (Q:Value->Shared->Prop) (E:Value->Shared->Prop),Q (.int (g i j) s.toks) { s with toks:=s.toks+1 }->wpAny (model X.prog X.w) X.A (f (.int i t) (.int j u)) Q E s) :
  OpR X f (rI0 λi j=>.int (g i j)):=by
 intro pins s σ H x y v u Q I rx ry h
 obtain⟨i,j,rfl,rfl,q⟩:=h
 obtain⟨t,rfl⟩:=rx
 obtain⟨t',rfl⟩:=ry
 exact rule i j t t' s _ _ ⟨.int (g i j),H,I.tok _,⟨_,rfl⟩,q⟩
theorem aD0 {f:Value->Value->Sem Value}{g:Int->Int->Bool}
  (rule:∀(i j:Int) (t u:Tok) (s:Shared) (Q:Value->Shared->Prop) (E:Value->Shared->Prop),Q (.bool (g i j)) s->wpAny (model X.prog X.w) X.A (f (.int i t) (.int j u)) Q E s) :
  OpR X f (rI0 λi j=>.bl (g i j)):=by
 intro pins s σ H x y v u Q I rx ry h
 obtain⟨i,j,rfl,rfl,q⟩:=h
 obtain⟨t,rfl⟩:=rx
 obtain⟨t',rfl⟩:=ry
 exact rule i j t t' s _ _ ⟨.bl (g i j),H,I,rfl,q⟩
def aG4 (i j:Int):Prop:=0<j/\j<1073741824
def aG5 (i j:Int):Prop:=0<=j/\j<=1000000/\i.natAbs<2 ^ 64
def CMul (i j:Int):Prop:=(-(2 ^ 64)<i/\i<2 ^ 64)\/(-(2 ^ 64)<j/\j<2 ^ 64)
theorem CMul.ok {i j:Int}(h:CMul i j):IntMulOk i j:=by
 rcases h with ⟨h1,h2⟩ | ⟨h1,h2⟩
 . exact .of_left (intBits_le_64 h1 h2)
 exact .of_right (intBits_le_64 h1 h2)
theorem op_add:OpR X (binaryOp .Add) (rI0 λi j=>.int (i+j)):=aG1 λ_ _ _ _ _ _ _ q=>add_int q
theorem Y3:OpR X (binaryOp .Sub) (rI0 λi j=>.int (i-j)):=aG1 λ_ _ _ _ _ _ _ q=>sub_int q
theorem op_mul:OpR X (binaryOp .Mult) (rI CMul λi j=>.int (i*j)):=opI λ_ _ _ _ _ _ _ hc q=>mul_int q hc.ok
theorem am4:OpR X (binaryOp .FloorDiv) (rI aG4 λi j=>.int (i / j)):=opI λi j _ _ _ _ _ hc q=>by
 have h1:(0:Int)<j:=hc.1
 have h2:j<1073741824:=hc.2
 exact floordiv_int (by omega) (by rw[Int.fdiv_eq_ediv_of_nonneg i (by omega)];exact q) (.inl (PyProof.noPylong_small (by omega)))
theorem Lm:OpR X (binaryOp .Mod) (rI (λ_ j=>0<j) λi j=>.int (i % j)):=opI λi j _ _ _ _ _ hc q=>by
 have h1:(0:Int)<j:=hc
 exact mod_int' (by omega) (by rw[Int.fmod_eq_emod_of_nonneg i (by omega)];exact q)
theorem ah3:OpR X (binaryOp .Pow) (rI aG5 λi j=>.int (i ^ j.toNat)):=opI λ_ _ _ _ _ _ _ hc q=>pow_int_small hc.1 hc.2.1 hc.2.2 q
theorem ag7:OpR X (binaryOp .BitAnd) (rI0 λi j=>.int (Builtin.bitAnd i j)):=aG1 λ_ _ _ _ _ _ _ q=>and_int q
theorem unI {f:Value->Sem Value}{g:Int->Int}
  (rule:∀(i:Int) (t:Tok) (s:Shared) (Q:Value->Shared->Prop) (E:Value->Shared->Prop),Q (.int (g i) s.toks) { s with toks:=s.toks+1 }->wpAny (model X.prog X.w) X.A (f (.int i t)) Q E s) :
  UnR X f (rU λi=>.int (g i)):=by
 intro pins s σ H x v Q I rx h
 obtain⟨i,rfl,q⟩:=h
 obtain⟨t,rfl⟩:=rx
 exact rule i t s _ _ ⟨.int (g i),H,I.tok _,⟨_,rfl⟩,q⟩
theorem Vr:UnR X (unaryOp .USub) (rU λi=>.int (-i)):=unI λ_ _ _ _ _ q=>neg_int q
end
def aD2:V->V->Bool
 | .non,.non=>true | .non,.int _=>true | .int _,.non=>true | .non,.bl _=>true | .bl _,.non=>true | .non,.str _=>true | .str _,.non=>true
 | .int _,.int _=>true | .bl _,.bl _=>true | .str _,.str _=>true | .byt _,.byt _=>true
 | .int _,.str _=>true | .str _,.int _=>true | .bl _,.str _=>true | .str _,.bl _=>true
 | _,_=>false
def rEq:R2:=λx y H Q=>aD2 x y=true/\Q (.bl (decide (x=y))) H
def rNe:R2:=λx y H Q=>aD2 x y=true/\Q (.bl (!decide (x=y))) H
theorem Xz {i j:Int}:decide (V.int i=V.int j)=(i==j):=by
 rw[A3H]
 simp
theorem ae4 {i j:Bool}:decide (V.bl i=V.bl j)=(i==j):=by
 rw[A3H]
 simp
theorem Ye {i j:Str}:decide (V.str i=V.str j)=(i==j):=by
 rw[A3H]
 simp
theorem Yt {i j:Array UInt8}:decide (V.byt i=V.byt j)=(i.toList==j.toList):=by
 rw[A3H]
 cases i
 cases j
 simp
section
variable {X:Cx}{a b c:Expr}{ta tb tc:TE}{pos:Pos}
theorem Bi {pins:List (Addr×Obj)}{σ:St}{H:Hp}{s:Shared}{Q:VK}{k k':Bool}(I:Inv X pins σ H s)(q:Q (.bl k) H)(e:k=k'):EP X pins σ Q (.bool k') s:=by
 subst e
 exact⟨.bl k,H,I,rfl,q⟩
theorem op_eq:OpR X (compareOp .Eq) rEq:=by
 intro pins s σ H x y v u Q I rx ry h
 obtain⟨hs,q⟩:=h
 cases x with
 | non=>
   cases rx
   cases y with
   | non=>cases ry;exact PySem.EqNone.eq_none_none (Bi I q nofun)
   | bl j=>cases ry;exact PySem.EqNone.eq_none_bool (Bi I q nofun)
   | int j=>obtain⟨t',rfl⟩:=ry;exact PySem.EqNone.eq_none_int (Bi I q nofun)
   | str j=>obtain⟨t',rfl⟩:=ry;exact PySem.EqNone.eq_none_str (Bi I q nofun)
   | _=>exact absurd (show false=true from hs) A0D
 | bl i=>
   cases rx
   cases y with
   | non=>cases ry;exact PySem.EqNone.eq_bool_none (Bi I q nofun)
   | bl j=>cases ry;exact eq_bool (Bi I q ae4)
   | str j=>obtain⟨t',rfl⟩:=ry;exact PySem.EqMixed.eq_bool_str (Bi I q nofun)
   | _=>exact absurd (show false=true from hs) A0D
 | int i=>
   obtain⟨t,rfl⟩:=rx
   cases y with
   | non=>cases ry;exact PySem.EqNone.eq_int_none (Bi I q nofun)
   | int j=>obtain⟨t',rfl⟩:=ry;exact eq_int (Bi I q Xz)
   | str j=>obtain⟨t',rfl⟩:=ry;exact PySem.EqMixed.eq_int_str (Bi I q nofun)
   | _=>exact absurd (show false=true from hs) A0D
 | str i=>
   obtain⟨t,rfl⟩:=rx
   cases y with
   | non=>cases ry;exact PySem.EqNone.eq_str_none (Bi I q nofun)
   | bl j=>cases ry;exact PySem.EqMixed.eq_str_bool (Bi I q nofun)
   | int j=>obtain⟨t',rfl⟩:=ry;exact PySem.EqMixed.eq_str_int (Bi I q nofun)
   | str j=>obtain⟨t',rfl⟩:=ry;exact eq_str (Bi I q Ye)
   | _=>exact absurd (show false=true from hs) A0D
 | byt i=>
   obtain⟨t,rfl⟩:=rx
   cases y with
   | byt j=>obtain⟨t',rfl⟩:=ry;exact PySem.W.eq_bytes (Bi I q Yt)
   | _=>exact absurd (show false=true from hs) A0D
 | _=>cases y<;>exact absurd (show false=true from hs) A0D
theorem op_ne:OpR X (compareOp .NotEq) rNe:=by
 intro pins s σ H x y v u Q I rx ry h
 obtain⟨hs,q⟩:=h
 cases x with
 | non=>
   cases rx
   cases y with
   | non=>cases ry;exact PySem.EqNone.ne_none_none (Bi I q nofun)
   | bl j=>cases ry;exact PySem.EqNone.ne_none_bool (Bi I q nofun)
   | int j=>obtain⟨t',rfl⟩:=ry;exact PySem.EqNone.ne_none_int (Bi I q nofun)
   | str j=>obtain⟨t',rfl⟩:=ry;exact PySem.EqNone.ne_none_str (Bi I q nofun)
   | _=>exact absurd (show false=true from hs) A0D
 | bl i=>
   cases rx
   cases y with
   | non=>cases ry;exact PySem.EqNone.ne_bool_none (Bi I q nofun)
   | bl j=>cases ry;exact ne_bool (Bi I q (congrArg not ae4))
   | str j=>obtain⟨t',rfl⟩:=ry;exact PySem.EqMixed.ne_bool_str (Bi I q nofun)
   | _=>exact absurd (show false=true from hs) A0D
 | int i=>
   obtain⟨t,rfl⟩:=rx
   cases y with
   | non=>cases ry;exact PySem.EqNone.ne_int_none (Bi I q nofun)
   | int j=>obtain⟨t',rfl⟩:=ry;exact ne_int (Bi I q (congrArg not Xz))
   | str j=>obtain⟨t',rfl⟩:=ry;exact PySem.EqMixed.ne_int_str (Bi I q nofun)
   | _=>exact absurd (show false=true from hs) A0D
 | str i=>
   obtain⟨t,rfl⟩:=rx
   cases y with
   | non=>cases ry;exact PySem.EqNone.ne_str_none (Bi I q nofun)
   | bl j=>cases ry;exact PySem.EqMixed.ne_str_bool (Bi I q nofun)
   | int j=>obtain⟨t',rfl⟩:=ry;exact PySem.EqMixed.ne_str_int (Bi I q nofun)
   | str j=>obtain⟨t',rfl⟩:=ry;exact ne_str (Bi I q (congrArg not Ye))
   | _=>exact absurd (show false=true from hs) A0D
 | byt i=>
   obtain⟨t,rfl⟩:=rx
   cases y with
   | byt j=>obtain⟨t',rfl⟩:=ry;exact PySem.W.ne_bytes (Bi I q (congrArg not Yt))
   | _=>exact absurd (show false=true from hs) A0D
 | _=>cases y<;>exact absurd (show false=true from hs) A0D
theorem ad7:OpR X (compareOp .Lt) (rI0 λi j=>.bl (decide (i<j))):=aD0 λ_ _ _ _ _ _ _ q=>lt_int q
theorem aE0:OpR X (compareOp .LtE) (rI0 λi j=>.bl (decide (i<=j))):=aD0 λ_ _ _ _ _ _ _ q=>le_int q
theorem aw7:OpR X (compareOp .Gt) (rI0 λi j=>.bl (decide (j<i))):=aD0 λ_ _ _ _ _ _ _ q=>gt_int q
theorem aE4:OpR X (compareOp .GtE) (rI0 λi j=>.bl (decide (j<=i))):=aD0 λ_ _ _ _ _ _ _ q=>ge_int q
theorem op_in_str:OpR X (compareOp .In) (λx y H Q=>∃ i j,x = .str i/\y = .str j/\Q (.bl (!(Builtin.Str.occurrences j i 0 j.length 1).isEmpty)) H):=by
 intro pins s σ H x y v u Q I rx ry h
 obtain⟨i,j,rfl,rfl,q⟩:=h
 obtain⟨t,rfl⟩:=rx
 obtain⟨t',rfl⟩:=ry
 exact in_str (Bi I q rfl)
theorem aB4:OpR X (compareOp .Is) (λx y H Q=>y = .non/\Q (.bl (decide (x = .non))) H):=by
 intro pins s σ H x y v u Q I rx ry h
 obtain⟨rfl,q⟩:=h
 cases ry
 refine is_none_gen (Bi I q ?_)
 cases x<;>first
  | (cases rx;rfl)
  | (obtain⟨t,rfl⟩:=rx;rfl)
theorem ap1:OpR X (compareOp .IsNot) (λx y H Q=>y = .non/\Q (.bl (!decide (x = .non))) H):=by
 intro pins s σ H x y v u Q I rx ry h
 obtain⟨rfl,q⟩:=h
 cases ry
 refine isnot_none_gen (Bi I q ?_)
 cases x<;>first
  | (cases rx;rfl)
  | (obtain⟨t,rfl⟩:=rx;rfl)
theorem OpR.or {f:Value->Value->Sem Value}{r r':R2}(h:OpR X f r)(h':OpR X f r'):OpR X f (λx y H Q=>r x y H Q\/r' x y H Q):=by
 intro pins s σ H x y v u Q I rx ry q
 rcases q with q | q
 . exact h pins s σ H x y v u Q I rx ry q
 exact h' pins s σ H x y v u Q I rx ry q
theorem An (b:Expr){op:CmpOp}(h:op ≠ .In:=by decide)(h2:op ≠ .NotIn:=by decide):behindInMarks op b=false:=by
 have e1:(op==CmpOp.In)=false:=by cases op<;>first | rfl | exact absurd rfl h
 have e2:(op==CmpOp.NotIn)=false:=by cases op<;>first | rfl | exact absurd rfl h2
 cases b<;>simp[behindInMarks,e1,e2]
theorem C3 {op:CmpOp}{r:R2}(ho:OpR X (compareOp op) r)(ha:PE X a ta)(hb:PE X b tb)(hm:behindInMarks op b=false):PE X (.Compare a [op] [b] pos) (tOp r ta tb):=by
 intro pins s σ H Q I h
 exact wpAny_Compare1 (aG2 ha hb I h λv u s2 x y H2 I2 rx ry q=>ho pins s2 σ H2 x y v u Q I2 rx ry q) hm
def as6 (t:TE):TT:=fun σ H Q=>t σ H λx H'=>∃ k,x = .bl k/\Q k H'
theorem Ai {op:CmpOp}{r:R2}(ho:OpR X (compareOp op) r)(ha:PE X a ta)(hb:PE X b tb)(hm:behindInMarks op b=false):PT X (.Compare a [op] [b] pos) (as6 (tOp r ta tb)):=by
 intro pins s σ H Q I h
 refine wpAny_isTrue_Compare1 (thn (ha pins s σ H _ I h) λv s1 ⟨x,H1,I1,r1,q1⟩=>thn (hb pins s1 σ H1 _ I1 q1) λu s2 ⟨y,H2,I2,r2,q2⟩=>
  thn (ho pins s2 σ H2 x y v u _ I2 r1 r2 q2) λc s3 ⟨z,H3,I3,r3,k,e,q3⟩=>?_) hm
 subst e
 cases r3
 exact A2N ⟨H3,I3,q3⟩
def TruV (K:PySem.W.Frag)(x:V)(H:Hp)(k:Bool):Prop:=
 match x with
 | .non=>k=false
 | .bl b=>k=b
 | .int i=>k=(i != 0)
 | .str y=>y.length<=sizeLine/\k=((y.length:Int) != 0)
 | .byt y=>y.size<=sizeLine/\k=((y.size:Int) != 0)
 | .ref p=>(∃ xs,SqL K H p xs/\k = !xs.isEmpty)\/(∃ xs,SqT K H p xs/\k = !xs.isEmpty)\/∃ kvs,H p=some (.dK kvs)/\k = !kvs.isEmpty
 | _=>False
theorem Xa {κ:Type}{kvs:List (κ×V)}{vs:List (κ×Value)}(r:KV kvs vs):(!vs.isEmpty) = !kvs.isEmpty:=by
 cases r<;>rfl
theorem Pu {xs:List V}{its:List Value}(r:Vals xs its):(!its.toArray.isEmpty) = !xs.isEmpty:=by
 cases r<;>simp
theorem Pz:(sizeLine:Nat)<2 ^ 63:=by rw[A14];decide
theorem at1:TruR X (λx H Q=>∃ k,TruV X.K x H k/\Q k H):=by
 intro pins s σ H x v Q I rx h
 obtain ⟨k,e,q⟩:=h
 have hl:=Pz
 have hs:sizeLine=16777216:=A14
 cases x with
 | non=>
   cases rx
   have e':k=false:=e
   subst e'
   exact truthy_none ⟨H,I,q⟩
 | bl b=>
   cases rx
   have e':k=b:=e
   subst e'
   exact A2N ⟨H,I,q⟩
 | int i=>
   obtain⟨t,rfl⟩:=rx
   have e':k=(i != 0):=e
   subst e'
   exact PySem.P.truthy_int ⟨H,I,q⟩
 | str y=>
   obtain⟨t,rfl⟩:=rx
   obtain⟨hy,e'⟩:y.length<=sizeLine/\k=((y.length:Int) != 0):=e
   subst e'
   exact PySem.P.truthy_str (by omega) ⟨H,I.tok _,q⟩
 | byt y=>
   obtain⟨t,rfl⟩:=rx
   obtain⟨hy,e'⟩:y.size<=sizeLine/\k=((y.size:Int) != 0):=e
   subst e'
   exact PySem.W.truthy_bytes (by omega) ⟨H,I.tok _,q⟩
 | ref p=>
   cases rx
   have e':(∃ xs,SqL X.K H p xs/\k = !xs.isEmpty)\/(∃ xs,SqT X.K H p xs/\k = !xs.isEmpty)\/∃ kvs,H p=some (.dK kvs)/\k = !kvs.isEmpty:=e
   rcases e' with ⟨xs,hx,e'⟩ | ⟨xs,hx,e'⟩ | ⟨kvs,hx,e'⟩
   . subst e'
     obtain⟨its,r,pl,hz⟩:=I.list hx
     have hlen:=r.length
     exact wpAny_truthy_list pl.isList (by simp only[List.size_toArray];omega) ⟨H,I.tok _,by rw[Pu r];exact q⟩
   . subst e'
     obtain⟨its,r,pl,hz⟩:=I.tuple hx
     have hlen:=r.length
     exact truthy_tuple pl (by simp only[List.size_toArray];omega) ⟨H,I.tok _,by rw[Pu r];exact q⟩
   subst e'
   obtain⟨hz,hS,vs,r,m⟩:kvs.length<=sizeLine/\(p==sysModules)=false/\∃ vs,KV kvs vs/\s.heap.DictOf (Ar X.prog X.w) p vs:=I.hok p _ hx
   have hlen:kvs.length=vs.length:=A2M r
   exact wpAny_truthy_dict hS m (by omega) ⟨H,I.tok _,by rw[Xa r];exact q⟩
 | _=>exact(show False from e).elim
theorem op_add_str:OpR X (binaryOp .Add) (λx y H Q=>∃ i j,x = .str i/\y = .str j/\i.length+j.length<=sizeLine/\Q (.str (i++j)) H):=by
 intro pins s σ H x y v u Q I rx ry h
 obtain⟨i,j,rfl,rfl,hz,q⟩:=h
 obtain⟨t,rfl⟩:=rx
 obtain⟨t',rfl⟩:=ry
 exact add_str (λt' tk=>⟨.str (i++j),H,I.tok _,⟨_,rfl⟩,q⟩) hz
theorem Km {x:V}{us:List Value}(r:Vals [x] us):∃ u,us=[u]/\RelV x u:=by
 cases r with
 | cons r1 r2=>cases r2;exact⟨_,rfl,r1⟩
theorem Tn {x y:V}{us:List Value}(r:Vals [x,y] us):∃ u w',us=[u,w']/\RelV x u/\RelV y w':=by
 cases r with
 | cons r1 r2=>
   cases r2 with
   | cons r3 r4=>cases r4;exact⟨_,_,rfl,r1,r3⟩
theorem Zf:CallR X (.type "int") (λxs H Q=>(∃ i,xs=[.int i]/\Q (.int i) H)\/∃ k,xs=[.bl k]/\Q (.int (if k then 1 else 0)) H):=by
 intro pins s σ H xs us Q I r h
 rcases h with ⟨i,rfl,q⟩ | ⟨k,rfl,q⟩
 . obtain⟨u,rfl,t,rfl⟩:=Km r
   exact call_int_int ⟨.int i,H,I,⟨_,rfl⟩,q⟩
 obtain⟨u,rfl,r1⟩:=Km r
 cases r1
 exact call_int_bool ⟨.int (if k then 1 else 0),H,I.tok _,⟨_,rfl⟩,q⟩
theorem T9:CallR X (.type "str") (λxs H Q=>∃ i,xs=[.int i]/\i.natAbs.log2<1920/\Q (.str (toString i)) H):=by
 intro pins s σ H xs us Q I r h
 obtain⟨i,rfl,hz,q⟩:=h
 obtain⟨u,rfl,t,rfl⟩:=Km r
 exact PySem.P.str_of_int hz ⟨.str _,H,I.tok _,⟨_,rfl⟩,q⟩
def aJ5 (K:PySem.W.Frag)(x:V)(H:Hp)(n:Nat):Prop:=
 match x with
 | .str y=>y.length<=sizeLine/\n=y.length
 | .byt y=>y.size<=sizeLine/\n=y.size
 | .ref p=>(∃ xs,SqL K H p xs/\n=xs.length)\/∃ xs,SqT K H p xs/\n=xs.length
 | _=>False
theorem call_len:CallR X (.builtin "len") (λxs H Q=>∃ x n,xs=[x]/\aJ5 X.K x H n/\Q (.int n) H):=by
 intro pins s σ H xs us Q I r h
 obtain⟨x,n,rfl,e,q⟩:=h
 obtain ⟨u,rfl,rx⟩:=Km r
 have hl:=Pz
 have hs:sizeLine=16777216:=A14
 cases x with
 | str y=>
   obtain⟨t,rfl⟩:=rx
   obtain⟨hy,e'⟩:y.length<=sizeLine/\n=y.length:=e
   subst e'
   exact len_str (by omega) ⟨.int _,H,I.tok _,⟨_,rfl⟩,q⟩
 | byt y=>
   obtain⟨t,rfl⟩:=rx
   obtain⟨hy,e'⟩:y.size<=sizeLine/\n=y.size:=e
   subst e'
   exact PySem.W.len_bytes (by omega) ⟨.int _,H,I.tok _,⟨_,rfl⟩,q⟩
 | ref p=>
   cases rx
   have e':(∃ xs,SqL X.K H p xs/\n=xs.length)\/∃ xs,SqT X.K H p xs/\n=xs.length:=e
   rcases e' with ⟨xs,hx,e'⟩ | ⟨xs,hx,e'⟩
   . subst e'
     obtain⟨its,r',pl,hz⟩:=I.list hx
     have hlen:=r'.length
     exact Calls.call_len_list pl.isList (by simp only[List.size_toArray];omega) ⟨.int xs.length,H,I.tok _,⟨_,by simp only[List.size_toArray];rw[hlen]⟩,q⟩
   subst e'
   obtain⟨its,r',pl,hz⟩:=I.tuple hx
   have hlen:=r'.length
   exact len_tuple pl (by simp only[List.size_toArray];omega) ⟨.int xs.length,H,I.tok _,⟨_,by simp only[List.size_toArray];rw[hlen]⟩,q⟩
 | _=>exact(show False from e).elim
end
structure ObjM (h:Heap)(x dx C:Addr)(mA:Str->Option Value):Prop where
 obj:h.get? x=some (PySem.W.instObj C dx)
 ns:h.Ns1 dx mA
 ne:dx≠x
theorem T5 {h:Heap}{dx:Addr}{mA:Str->Option Value}(n:h.Ns1 dx mA):∃ od,h.get? dx=some od/\∀ name,PySem.W.lookIn name od=some (mA name):=by
 obtain⟨o,es,ep,ho,hd,hk,_,hm⟩:=n
 refine⟨o,ho,λname=>?_⟩
 have e:=hm name
 unfold nsFind findBy at e
 rw[<- Array.find?_toList] at e
 unfold PySem.W.lookIn
 rw[hd]
 dsimp only
 split
 . rename_i y q
   rw[q] at e
   exact congrArg some e
 rename_i q
 rw[q] at e
 have a:es.toList.any (·.refKey)=false:=by
  rw[List.any_eq_false]
  intro y hy
  obtain⟨z,t,hkey⟩:=hk y (Array.mem_toList_iff.mp hy)
  simp[DictEntry.refKey,hkey]
 have a':¬ es.toList.any (·.refKey)=true:=by rw[a];exact A0D
 rw[A0Y a']
 exact congrArg some e
theorem ObjM.look {h:Heap}{x dx C:Addr}{mA:Str->Option Value}(I:ObjM h x dx C mA):∃ od,PySem.W.InstAt h x (PySem.W.instObj C dx) C (some od)/\∀ name,PySem.W.lookIn name od=some (mA name):=
 let ⟨od,ho,hl⟩:=T5 I.ns
 ⟨od,⟨I.obj,rfl,rfl,ho⟩,hl⟩
section
variable {prog:Program}{w:World}{A:Around}{E:Value->Shared->Prop}{s:Shared}{K:PySem.W.Frag}{x dx C f:Addr}{mA:Str->Option Value}{name:Str}{v:Value}
theorem am5 {expr:Bool}{Q:Value->Shared->Prop}(X:K.In s.heap)(I:ObjM s.heap x dx C mA)(hg:PySem.W.plainGet K C name=true)(hh:PySem.W.hasDictIn K C=true)
  (ha:PySem.W.findIn K (.ref C) name=some none) (hv:mA name=some v) (hv':PySem.W.handedIn v=true) (h:Q v { s with toks:=s.toks+1 }) :
  wpAny (model prog w) A (getAttr (.ref x) name expr) Q E s:=by
 obtain⟨od,J,hl⟩:=I.look
 exact PySem.W.get_value X J (A4J hg).1 (PySem.W.findObj_own hh ha rfl (by rw[hl,hv])) hv' h
theorem a92 {pl:Sem Bool}{Q:Value×List Value->Shared->Prop}(X:K.In s.heap)(I:ObjM s.heap x dx C mA)(hg:PySem.W.plainGet K C name=true)
  (hf:PySem.W.findIn K (.ref C) name=some (some (.ref f))) (ht:PySem.W.isFn K (.ref f)=true) (hv:mA name=none) (h:Q (.ref f,[.ref x]) s) :
  wpAny (model prog w) A (getMethod (.ref x) name pl) Q E s:=by
 obtain⟨od,J,hl⟩:=I.look
 exact PySem.W.method_fn X J (A4J hg).1 (A4J hg).2 hf (A1M.mp ht) (by show(PySem.W.lookIn name od).map (·.isSome)=some false;rw[hl,hv];rfl) h
theorem al9 {ns:List Str}{Q:Unit->Shared->Prop}(X:K.In s.heap)(I:ObjM s.heap x dx C mA)
  (hs:PySem.W.findIn K (.ref C) "__setattr__" = some (some (.builtin "object.__setattr__"))) (hp:PySem.W.plainOver K C=true) (ht:PySem.W.takerIn K C name=some none) (hh:PySem.W.hasDictIn K C=true)
  (hw:PySem.Within mA ns) (hsz:ns.length<=sizeLine)
  (h:∀ h',ObjM h' x dx C (λy=>if y=name then some v else mA y)->Heap.SameBut dx s.heap h'->Q () { s with heap:=h',toks:=s.toks+2 }) :
  wpAny (model prog w) A (setAttr (.ref x) name v) Q E s:=by
 obtain⟨od,J,hl⟩:=I.look
 refine PySem.W.set_plain X J hs (PySem.W.osa_open (s:={ s with toks:=s.toks+1 }) (r:=none) X J hp ht λb=>?_)
 obtain⟨cd,hc,hd'⟩:=A42 hh
 have hx:s.heap.get? x=some ⟨.ref C,some dx,.plain,#[]⟩:=I.obj
 refine A01 (A06 (A01 (A01 (A4H hx (A01 (A4Q (s:={ s with toks:=s.toks+1 }) (A3I X hc) ?_))))))
 rw[hd']
 refine A06 (a:=some dx) (A01 (A06 (A01 ?_)))
 refine wpAny_nsSet1 (s:={ s with toks:=s.toks+1 }) I.ns λh' hn2 hs2=>?_
 obtain⟨oD,esD,epD,hoD,hdD,hcD⟩:=hn2.count (PySem.Within.cons name v hw)
 refine A01 (wpAny_lookBehind hoD (by rw[hdD];exact pastItsLine_dict (A0L hcD (by rw[A0Z];omega))) ?_)
 exact A06 (h _ ⟨(hs2.2 _ (Ne.symm I.ne)).trans I.obj,hn2,I.ne⟩ hs2)
theorem a77 {R:Result->Shared->Prop}{vs:List Value}{kw:List (Str×Value)}(X:K.In s.heap)(hm:PySem.W.makesIn K C=true)
  (hi:PySem.W.findIn K (.ref C) "__init__" = some (some (.ref f))) (hf:PySem.W.typeIn K (.ref f)=some (.type "function"))
  (h:codeAny (model prog w) (A.under (.builtin "type.__call__" ⟨.ref C :: vs,kw⟩)) (.call (.ref f) ⟨.ref (s.heap.objs.size+1) :: vs,kw⟩) (PySem.W.InitBack (s.heap.objs.size+1) R)
   { s with heap:=(s.heap.push PySem.W.emptyDict).push (PySem.W.instObj C s.heap.objs.size) }) :
  codeAny (model prog w) A (.call (.ref C) ⟨vs,kw⟩) R s:=by
 obtain⟨hh,g,d,t,os⟩:=s
 exact PySem.W.make_core (PySem.W.makes_of X hm) (A2T X hi) (λself=>PySem.W.bind_fn X self hf) (.inl rfl) h
end
def Lj (f:Str) (v:V):List (Str×V)->List (Str×V)
 | []=>[(f,v)]
 | (g,x) :: r=>if g=f then(g,v) :: r else(g,x) :: Lj f v r
theorem Jz (f g:Str)(v:V):∀ fs:List (Str×V),(Lj f v fs).lookup g=if g=f then some v else fs.lookup g
 | []=>by
   show List.lookup g [(f,v)]=_
   by_cases h:g=f
   . have hb:(g==f)=true:=A1M.mpr h
     simp only[List.lookup,hb,if_pos h]
   have hb:(g==f)=false:=A0W.mpr h
   simp only[List.lookup,hb,if_neg h]
 | (k,x) :: r=>by
   have ih:=Jz f g v r
   rw[show Lj f v ((k,x) :: r)=(if k=f then(k,v) :: r else(k,x) :: Lj f v r) from rfl]
   by_cases hk:k=f
   . rw[A11 hk]
     by_cases h:g=k
     . have hb:(g==k)=true:=A1M.mpr h
       simp only[List.lookup,hb,if_pos (h.trans hk)]
     have hb:(g==k)=false:=A0W.mpr h
     simp only[List.lookup,hb,if_neg (λe:g=f=>h (e.trans hk.symm))]
   rw[A0Y hk]
   by_cases h:g=k
   . have hb:(g==k)=true:=A1M.mpr h
     simp only[List.lookup,hb,if_neg (λe:g=f=>hk (h.symm.trans e))]
   have hb:(g==k)=false:=A0W.mpr h
   simp only[List.lookup,hb]
   exact ih
theorem Mg (f:Str)(v:V):∀ fs:List (Str×V),f∈(Lj f v fs).map (·.1)/\∀ g,g∈fs.map (·.1)->g∈(Lj f v fs).map (·.1)
 | []=>⟨by simp[Lj],λg h=>by simp at h⟩
 | (k,x) :: r=>by
   obtain⟨i1,i2⟩:=Mg f v r
   rw[show Lj f v ((k,x) :: r)=(if k=f then(k,v) :: r else(k,x) :: Lj f v r) from rfl]
   by_cases hk:k=f
   . rw[A11 hk]
     subst hk
     exact⟨by simp,λg h=>by simpa using h⟩
   rw[A0Y hk]
   refine⟨?_,λg h=>?_⟩
   . rw[A0X]
     exact A0C _ i1
   rw[A0X] at h ⊢
   rcases A0K.mp h with e | e
   . exact A0K.mpr (.inl e)
   exact A0C _ (i2 g e)
theorem Nh (f:Str)(v:V):∀ fs:List (Str×V),(Lj f v fs).length<=fs.length+1
 | []=>by simp[Lj]
 | (k,x) :: r=>by
   have ih:=Nh f v r
   rw[show Lj f v ((k,x) :: r)=(if k=f then(k,v) :: r else(k,x) :: Lj f v r) from rfl]
   by_cases hk:k=f
   . rw[A11 hk,A0Z,A0Z];omega
   rw[A0Y hk,A0Z,A0Z];omega
theorem RelO.some_of {v:V}{o:Option Value}(r:RelO (some v) o):∃ u,o=some u/\RelV v u:=by
 cases o with
 | none=>exact(show False from r).elim
 | some u=>exact⟨u,rfl,r⟩
theorem RelO.none_of {o:Option Value}(r:RelO none o):o=none:=by
 cases o with
 | none=>rfl
 | some u=>exact(show False from r).elim
theorem Rs {v:V}{u:Value}(r:RelV v u):PySem.W.handedIn u=true:=by
 cases v with
 | non=>cases (show u=Value.none from r);rfl
 | bl b=>cases (show u=Value.bool b from r);rfl
 | int i=>obtain⟨t,e⟩:=(show ∃ t,u=Value.int i t from r);cases e;rfl
 | str x=>obtain⟨t,e⟩:=(show ∃ t,u=Value.str x t from r);cases e;rfl
 | byt b=>obtain⟨t,e⟩:=(show ∃ t,u=Value.bytes b t from r);cases e;rfl
 | flt b=>obtain⟨t,e⟩:=(show ∃ t,u=Value.float b t from r);cases e;rfl
 | ref a=>cases (show u=Value.ref a from r);rfl
 | ty n=>cases (show u=Value.type n from r);rfl
section
variable {P:Program}{w:World}{H H':Hp}{h h':Heap}{a C dx:Addr}{fs fs':List (Str×V)}
theorem R9 (hok:HOk P w H h)(e:H a=some (.ins C dx fs)):∃ mA,ObjM h a dx C mA/\(∀ f,RelO (fs.lookup f) (mA f))/\PySem.Within mA (fs.map (·.1))/\fs.length<=1000/\H dx=some (.own a):=by
 obtain⟨d,z,ne,ob,mA,n,r,q⟩:=(show ObjOk P w H h a (.ins C dx fs) from hok a _ e)
 exact⟨mA,⟨ob,n,ne⟩,r,q,z,d⟩
end
structure Cls (K:PySem.W.Frag)(C:Addr):Prop where
 pg:PySem.W.plainGet K C Str.empty=true
 hd:PySem.W.hasDictIn K C=true
 po:PySem.W.plainOver K C=true
 sa:PySem.W.findIn K (.ref C) "__setattr__" = some (some (.builtin "object.__setattr__"))
theorem Cls.get {K:PySem.W.Frag}{C:Addr}(c:Cls K C)(f:Str):PySem.W.plainGet K C f=true:=c.pg
def NoAttr (K:PySem.W.Frag)(C:Addr)(f:Str):Prop:=PySem.W.findIn K (.ref C) f=some none
theorem NoAttr.taker {K:PySem.W.Frag}{C:Addr}{f:Str}(n:NoAttr K C f):PySem.W.takerIn K C f=some none:=by
 unfold PySem.W.takerIn
 rw[show PySem.W.findIn K (.ref C) f=some none from n]
 rfl
structure aq7 (K:PySem.W.Frag)(C:Addr)(m:Str)(f:Addr):Prop where
 at_:PySem.W.findIn K (.ref C) m=some (some (.ref f))
 fn:PySem.W.isFn K (.ref f)=true
 kp:PySem.W.keepIn K (.ref f)=true
section
variable {X:Cx}{pins:List (Addr×Obj)}{σ:St}{H:Hp}{s:Shared}{a C dx:Addr}{fs:List (Str×V)}{f:Str}{v:V}{A:Around}{E:Value->Shared->Prop}
theorem Wq {b:Bool}{Q:Value->Shared->Prop}(I:Inv X pins σ H s)(e:H a=some (.ins C dx fs))(c:Cls X.K C)(n:NoAttr X.K C f)(l:fs.lookup f=some v)
  (h:∀ u s',Inv X pins σ H s'->RelV v u->Q u s'):wpAny (model X.prog X.w) A (getAttr (.ref a) f b) Q E s:=by
 obtain⟨mA,O,r,_,_,_⟩:=R9 I.hok e
 obtain⟨u,hu,ru⟩:=RelO.some_of (v:=v) (o:=mA f) (by rw[<- l];exact r f)
 exact am5 I.kIn O (c.get f) c.hd n hu (Rs ru) (h u _ (I.tok _) ru)
theorem Pw {m:Str}{g:Addr}{pl:Sem Bool}{Q:Value×List Value->Shared->Prop}(I:Inv X pins σ H s)(e:H a=some (.ins C dx fs))(c:Cls X.K C)(k:aq7 X.K C m g)(l:fs.lookup m=none)
  (h:Q (.ref g,[.ref a]) s):wpAny (model X.prog X.w) A (getMethod (.ref a) m pl) Q E s:=by
 obtain⟨mA,O,r,_,_,_⟩:=R9 I.hok e
 have hn:mA m=none:=RelO.none_of (by rw[<- l];exact r m)
 exact a92 I.kIn O (c.get m) k.at_ k.fn hn h
theorem Xi {y:V}{u:Value}{Q:Unit->Shared->Prop}(I:Inv X pins σ H s)(e:H a=some (.ins C dx fs))(c:Cls X.K C)(n:NoAttr X.K C f)(hl:fs.length<1000)(ry:RelV y u)
  (h:∀ s',Inv X pins σ (upd H a (.ins C dx (Lj f y fs))) s'->Q () s'):wpAny (model X.prog X.w) A (setAttr (.ref a) f u) Q E s:=by
 obtain⟨mA,O,r,wi,_,ho⟩:=R9 I.hok e
 have hz:(fs.map (·.1)).length<=sizeLine:=by rw[A00,A14];omega
 refine al9 I.kIn O c.sa c.po n.taker c.hd wi hz λh' O' sb=>h _ ?_
 have hd:∃ o,h'.get? dx=some o:=let ⟨o,_,_,e',_⟩:=O'.ns;⟨o,e'⟩
 refine I.write (x:=a) (e:=dx) (by rw[e];exact A1G) (.inr ho) (λb q hb z=>(sb.2 b hb).trans z) hd ?_
 refine⟨by rw[Au O.ne];exact ho,?_,O.ne,O'.obj,_,O'.ns,λg=>?_,λg hg=>?_⟩
 . have:=Nh f y fs;omega
 . show RelO ((Lj f y fs).lookup g) (if g=f then some u else mA g)
   rw[Jz]
   by_cases q:g=f
   . rw[A11 q,A11 q];exact ry
   rw[A0Y q,A0Y q];exact r g
 by_cases q:g=f
 . rw[q];exact(Mg f y fs).1
 refine(Mg f y fs).2 g (wi g λz=>hg ?_)
 show(if g=f then some u else mA g)=none
 rw[A0Y q];exact z
theorem Inv.made (I:Inv X pins σ H s):Inv X pins σ (upd (upd H s.heap.objs.size (.own (s.heap.objs.size+1))) (s.heap.objs.size+1) (.ins C s.heap.objs.size []))
  { s with heap:=(s.heap.push PySem.W.emptyDict).push (PySem.W.instObj C s.heap.objs.size) }:=by
 have e1:(s.heap.push PySem.W.emptyDict).get? s.heap.objs.size=some PySem.W.emptyDict:=A0E s.heap rfl
 have e2:((s.heap.push PySem.W.emptyDict).push (PySem.W.instObj C s.heap.objs.size)).get? (s.heap.objs.size+1)=some (PySem.W.instObj C s.heap.objs.size):=by
  have:=A0E (s.heap.push PySem.W.emptyDict) (o:=PySem.W.instObj C s.heap.objs.size) rfl
  rwa[A1S] at this
 have e3:(s.heap.push PySem.W.emptyDict).Ns s.heap.objs.size (λ_=>none):=⟨PySem.W.emptyDict,#[],_,e1,rfl,(λe he=>absurd he nofun),λ_=>rfl⟩
 have I1:=I.laid (a:=s.heap.objs.size) (o:=.own (s.heap.objs.size+1)) (h':=s.heap.push PySem.W.emptyDict) (t':=s.toks) (λb u q=>A02 _ q) (A07 _) ⟨_,e1⟩
 refine I1.laid (a:=s.heap.objs.size+1) (o:=.ins C s.heap.objs.size []) (t':=s.toks) (λb u q=>A02 _ q) (Nat.le_of_eq (A1S _ _)) ?_
 have ne:s.heap.objs.size≠s.heap.objs.size+1:=A0J (A3A _)
 refine⟨by rw[Au ne,Ad],A3J _,ne,e2,λ_=>none,(Heap.Ns1.of_empty e3).at λo q=>A02 _ q,λ_=>A1G,λy hy=>absurd rfl hy⟩
theorem a51 {prog:Program}{w:World}{env:Env}{e:Expr}{f:Str}{pos:Pos}{s:Shared}{Q:Value->Shared->Prop}(hb:attributeBase e f env (eval e env)=eval e env)
  (h:wpAny (model prog w) A (eval e env) (λo s₁=>wpAny (model prog w) A (getAttr o f true) Q E s₁) E s):wpAny (model prog w) A (eval (.Attribute e f pos) env) Q E s:=
 Attribute_any_ h (by rw[arm_eval_Attribute,hb])
end
section
variable {X:Cx}{o e value:Expr}{f:Str}{pos pos' tpos:Pos}{ta tv:TE}
end
section
variable {X:Cx}{pins:List (Addr×Obj)}{σ:St}{H:Hp}{s:Shared}{A:Around}{E:Value->Shared->Prop}{Q:Value->Shared->Prop}{c:Value}{b:Bool}
inductive TyOf (K:PySem.W.Frag)(H:Hp):V->Value->Prop where
 | non:TyOf K H .non (.type "NoneType")
 | bl (x:Bool):TyOf K H (.bl x) (.type "bool")
 | int (i:Int):TyOf K H (.int i) (.type "int")
 | str (x:Str):TyOf K H (.str x) (.type "str")
 | flt (x:UInt64):TyOf K H (.flt x) (.type "float")
 | lst {a:Addr} {xs:List V} (e:H a=some (.lst xs)):TyOf K H (.ref a) (.type "list")
 | frz {a:Addr} {o:Obj} {xs:List V} (e:H a=some (.frz o (.lst xs))):TyOf K H (.ref a) (.type "list")
 | tup {a:Addr} {xs:List V} (e:H a=some (.tup xs)):TyOf K H (.ref a) (.type "tuple")
 | dK {a:Addr} {kvs:List (Key×V)} (e:H a=some (.dK kvs)):TyOf K H (.ref a) (.type "dict")
 | dT {a:Addr} {kvs:List (List Key×V)} (e:H a=some (.dT kvs)):TyOf K H (.ref a) (.type "dict")
 | ins {a C dx:Addr} {fs:List (Str×V)} (e:H a=some (.ins C dx fs)) (cl:Cls K C) (ha:PySem.W.findIn K (.ref C) "__class__" = some (some (.builtin "object.__class__")))
   (hn:PySem.W.specialIn K (.builtin "object.__class__") "__get__" = some (some (.builtin "getset_descriptor.__get__"))) (htk:PySem.W.takesIn K (.builtin "object.__class__")=some true)
   (hm:PySem.W.mroIn K C (.type "object")=some true):TyOf K H (.ref a) (.ref C)
theorem Ts {x:V}{u t:Value}(I:Inv X pins σ H s)(rx:RelV x u)(ty:TyOf X.K H x t)(e:PySem.W.kitOne X.K t c=some b)(h:∀ tk,Q (.bool b) { s with toks:=tk }) :
  wpAny (model X.prog X.w) A (call (.builtin "isinstance") [u,c]) Q E s:=by
 cases ty with
 | non=>cases (show u=Value.none from rx);exact A1A PySem.W.kitx_none I.kIn A1G e (λz=>nomatch z) h
 | bl y=>cases (show u=Value.bool y from rx);exact A1A PySem.W.kitx_bool I.kIn A1G e (λz=>nomatch z) h
 | int i=>obtain⟨t,q⟩:=(show ∃ t,u=Value.int i t from rx);cases q;exact A1A PySem.W.kitx_int I.kIn A1G e (λz=>nomatch z) h
 | str y=>obtain⟨t,q⟩:=(show ∃ t,u=Value.str y t from rx);cases q;exact A1A PySem.W.kitx_str I.kIn A1G e (λz=>nomatch z) h
 | flt y=>obtain⟨t,q⟩:=(show ∃ t,u=Value.float y t from rx);cases q;exact A1A PySem.W.kitx_float I.kIn A1G e (λz=>nomatch z) h
 | @lst a xs ea=>
   cases (show u=Value.ref a from rx)
   obtain⟨_,_,n,_,h1⟩:=(show ObjOk X.prog X.w H s.heap a (.lst xs) from I.hok a _ ea)
   exact A1A A3S I.kIn ⟨_,h1,rfl⟩ e (λz=>nomatch z) h
 | @frz a ob xs ea=>
   cases (show u=Value.ref a from rx)
   obtain⟨_,_,_,n,_,h1⟩:=(show ObjOk X.prog X.w H s.heap a (.frz ob (.lst xs)) from I.hok a _ ea)
   exact A1A A3S I.kIn ⟨_,h1,rfl⟩ e (λz=>nomatch z) h
 | @tup a xs ea=>
   cases (show u=Value.ref a from rx)
   obtain⟨_,_,_,p⟩:=(show ObjOk X.prog X.w H s.heap a (.tup xs) from I.hok a _ ea)
   obtain⟨o,h1,h2,_⟩:=p
   exact A1A A4R I.kIn ⟨o,h1,h2⟩ e (λz=>nomatch z) h
 | @dK a kvs ea=>
   cases (show u=Value.ref a from rx)
   obtain⟨_,_,vs,_,p⟩:=(show ObjOk X.prog X.w H s.heap a (.dK kvs) from I.hok a _ ea)
   obtain⟨o,es,ep,h1,h2,_⟩:=p
   exact A1A PySem.W.kitx_dict I.kIn ⟨o,h1,h2.1⟩ e (λz=>nomatch z) h
 | @dT a kvs ea=>
   cases (show u=Value.ref a from rx)
   obtain⟨_,_,xs,_,o,es,ep,h1,h2,_⟩:=(show ObjOk X.prog X.w H s.heap a (.dT kvs) from I.hok a _ ea)
   exact A1A PySem.W.kitx_dict I.kIn ⟨o,h1,h2.1⟩ e (λz=>nomatch z) h
 | @ins a C dx fs ea cl ha hn htk hm=>
   cases (show u=Value.ref a from rx)
   obtain⟨mA,O,_⟩:=R9 I.hok ea
   obtain⟨od,J,_⟩:=O.look
   exact A1A (PySem.W.kitx_own (cl.get _) cl.hd ha hn htk hm) I.kIn J e (λz=>nomatch z) h
end
structure Room (k:Nat)(A:Around):Prop where
 hd:A.handled=none
 dp:A.depth+3*k+5<recursionLimit
 un:A.units+16*k+200<cLine
 gd:A.guards=some []
theorem Room.mono {j k:Nat}{A:Around}(r:Room k A)(h:j<=k):Room j A:=⟨r.hd,by have:=r.dp;omega,by have:=r.un;omega,r.gd⟩
theorem Room.deeper {k:Nat}{A:Around}(r:Room (k+1) A)(env:Env):Room k (A.deeper env):=
 ⟨r.hd,by have:=r.dp;show A.depth+1+3*k+5<_;omega,by have:=r.un;show A.units+3+16*k+200<_;omega,r.gd⟩
theorem X2 {A:Around}{C:Addr}{us:List Value}{kw:List (Str×Value)}:(A.under (.builtin "type.__call__" ⟨.ref C :: us,kw⟩)).depth=A.depth+1:=by
 first | rfl | simp[Around.under,Code.weight,Code.isCreation,Code.isGuard,Code.isCaller,Code.frames,Code.isFrame,guardIds]
theorem Wu {A:Around}{C:Addr}{us:List Value}{kw:List (Str×Value)}:(A.under (.builtin "type.__call__" ⟨.ref C :: us,kw⟩)).units=A.units+1:=by
 first | rfl | simp[Around.under,Code.cUnits,Code.frames,Code.isFrame]
theorem Room.make {k:Nat}{A:Around}(r:Room (k+1) A)(C:Addr)(us:List Value)(kw:List (Str×Value)):Room k (A.under (.builtin "type.__call__" ⟨.ref C :: us,kw⟩)):=
 ⟨r.hd,by have:=r.dp;rw[X2];omega,by have:=r.un;rw[Wu];omega,(by first | exact r.gd | (simpa[Around.under,Code.isGuard,guardIds,pushGuards] using r.gd))⟩
theorem Room.depth {k:Nat}{A:Around}(r:Room k A):A.depth<recursionLimit:=by have:=r.dp;omega
theorem Room.units {k:Nat}{A:Around}(r:Room k A):A.units+64<cLine:=by have:=r.un;omega
def at4:TA:=λ_ H Q=>Q [] H
def ar0 (ta:TE)(tr:TA):TA:=fun σ H Q=>ta σ H λx H1=>tr σ H1 λxs H2=>Q (x :: xs) H2
section
variable {X:Cx}{e:Expr}{es:List Expr}{te:TE}{t:TA}{pos:Pos}
theorem A4:PA X [] at4:=λ_ _ _ _ H Q I h=>A37 ⟨[],H,I,.nil,h⟩
theorem A3 (ha:PE X e te)(hr:PA X es t)(hs:starEach (e :: es) X.env=(false,eval e X.env) :: starEach es X.env:=by ac_nf):PA X (e :: es) (ar0 te t):=by
 intro pos pins s σ H Q I h
 rw[hs]
 show wpAny _ _ (spliced ((false,eval e X.env) :: backTo pos (starEach es X.env))) _ _ s
 refine A2D (thn (ha pins s σ H _ I h) λu s1 ⟨x,H1,I1,r1,q1⟩=>?_)
 exact thn (hr pos pins s1 σ H1 _ I1 q1) λus s2 ⟨xs,H2,I2,r2,q2⟩=>⟨x :: xs,H2,I2,.cons r1 r2,q2⟩
def aH4 (t:TA):TE:=fun σ H Q=>t σ H λxs H1=>xs.length<=sizeLine/\∀ p,H1 p=none->Q (.ref p) (upd H1 p (.tup xs))
def aI3 (t:TA):TE:=fun σ H Q=>t σ H λxs H1=>xs.length<=sizeLine/\∀ p,H1 p=none->Q (.ref p) (upd H1 p (.lst xs))
theorem B6 {x1}(h:PA X es t):PE X (.Tuple es x1 pos) (aH4 t):=by
 intro pins s σ H Q I hq
 refine wpAny_Tuple_spliced (thn (h pos pins s σ H _ I hq) λus s1 ⟨xs,H1,I1,r,z,q⟩=>⟨by rw[<- r.length];exact z,?_⟩)
 have hf:H1 s1.heap.objs.size=none:=I1.hok.fresh (A07 _)
 refine⟨.ref s1.heap.objs.size,upd H1 s1.heap.objs.size (.tup xs),I1.laid (t':=s1.toks) (λb u e=>A02 _ e) (A07 _) ?_,rfl,q _ hf⟩
 exact⟨z,us,r,⟨_,A0E _ rfl,rfl,⟨_,rfl⟩,rfl⟩⟩
theorem Bz (h:PA X es t):PE X (.List es pos) (aI3 t):=by
 intro pins s σ H Q I hq
 refine wpAny_List_spliced (thn (h pos pins s σ H _ I hq) λus s1 ⟨xs,H1,I1,r,z,q⟩=>⟨by rw[<- r.length];exact z,?_⟩)
 have hf:H1 s1.heap.objs.size=none:=I1.hok.fresh (A07 _)
 refine⟨.ref s1.heap.objs.size,upd H1 s1.heap.objs.size (.lst xs),I1.laid (t':=s1.toks) (λb u e=>A02 _ e) (A07 _) ?_,rfl,q _ hf⟩
 exact⟨z,us,0,r,A0E _ rfl⟩
end
abbrev Sp:=List V->Hp->VK->XK->Prop
abbrev CXT:=List Env->Hp->Shared->XK->Value->Shared->Prop
structure Env0 (P:Program)(w:World)(K:PySem.W.Frag)(mg:Str->Option Value)(base:Heap)(A:Around)(outer:List Env)(s:Shared)(H:Hp):Prop where
 frames:A.frames=some outer
 mod:Mod K mg base
 bs:∀ b o,base.get? b=some o->s.heap.get? b=some o/\H b=none
 bsz:base.objs.size<=s.heap.objs.size
 funs:s.heap.FunFrames base outer
 frf:∀ b∈frs outer,H b=none
 hok:HOk P w H s.heap
 bare:AllBare s.gens
def CE (outer:List Env)(P:Program)(w:World)(H:Hp)(s:Shared)(Q:VK)(u:Value)(s':Shared):Prop:=
 ∃ v H',s'.os=s.os/\AllBare s'.gens/\Un (frs outer) [] H H' s.heap s'.heap/\HOk P w H' s'.heap/\RelV v u/\Q v H'
def CR (CX:CXT)(outer:List Env)(P:Program)(w:World)(H:Hp)(s:Shared)(Q:VK)(E:XK)(r:Result)(s':Shared):Prop:=
 match r with
 | .ok (.ret u)=>CE outer P w H s Q u s'
 | .ok _=>False
 | .error e=>CX outer H s E e s'
structure FnOk (P:Program)(w:World)(K:PySem.W.Frag)(mg:Str->Option Value)(base:Heap)(CX:CXT)(k:Nat)(f:Addr)(fd:FuncData)(ps:List Str)(sp:Sp):Prop where
 len:∀ vs H Q E,sp vs H Q E->vs.length=ps.length
 run:∀(A:Around) (outer:List Env) (s:Shared) (H:Hp) (args:Args) (us:List Value) (vs:List V) (Q:VK) (E:XK),Room k A->Env0 P w K mg base A outer s H->BindsTo s fd args (ps.zip us)->Vals vs us->sp vs H Q E ->
  codeAny (model P w) A (.call (.ref f) args) (CR CX outer P w H s Q E) s
theorem Env0.make {P:Program}{w:World}{K:PySem.W.Frag}{mg:Str->Option Value}{base:Heap}{A:Around}{outer:List Env}{s:Shared}{H:Hp}(e:Env0 P w K mg base A outer s H)(C:Addr)(us:List Value)(kw:List (Str×Value)) :
  Env0 P w K mg base (A.under (.builtin "type.__call__" ⟨.ref C :: us,kw⟩)) outer s H:=⟨by first | exact e.frames | (simpa[Around.under,Code.envs,Code.isFrame,pushEnvs] using e.frames),e.mod,e.bs,e.bsz,e.funs,e.frf,e.hok,e.bare⟩
section
variable {X:Cx}{pins:List (Addr×Obj)}{σ:St}{H:Hp}{s s':Shared}
theorem Inv.env0 (I:Inv X pins σ H s):Env0 X.prog X.w X.K X.mg X.base X.A X.stack s H:=
 ⟨I.ok.frames,I.ok.mod,I.bs,A0L I.ok.bsz I.sz,I.stack,I.stkFree,I.hok,I.bare⟩
theorem Inv.after {Q:VK}{u:Value}(I:Inv X pins σ H s)(h:CE X.stack X.prog X.w H s Q u s'):EP X pins σ Q u s':=by
 obtain⟨v,H',os,bare,un,hok,r,q⟩:=h
 obtain⟨hh,g,d,t,os'⟩:=s'
 obtain rfl:os'=s.os:=os
 exact⟨v,H',I.call (h':=hh) (g':=g) (d':=d) (t':=t) (ch:=[]) un hok bare (λb z=>absurd z nofun),r,q⟩
end
def Xx (sp:Sp)(dvs:List V)(E:XK)(t:TA):TE:=fun σ H Q=>t σ H λvs H1=>sp (vs++dvs) H1 Q E
def X8 (C:Addr)(m:Str)(sp:Sp)(dvs:List V)(E:XK)(ta:TE)(t:TA):TE:=fun σ H Q=>ta σ H λx H1=>∃ a dx fs,x = .ref a/\H1 a=some (.ins C dx fs)/\fs.lookup m=none /\
 t σ H1 λvs H2=>sp (x :: (vs++dvs)) H2 Q E
def aE1 (C:Addr)(sp:Sp)(dvs:List V)(E:XK)(t:TA):TE:=fun σ H Q=>t σ H λvs H1=>∀ x dx,H1 x=none->H1 dx=none->dx≠x ->
 sp (.ref x :: (vs++dvs)) (upd (upd H1 dx (.own x)) x (.ins C dx [])) (λv H2=>v = .non/\Q (.ref x) H2) E
def Binds (K:PySem.W.Frag)(fd:FuncData)(ps:List Str)(ds:List Value):Prop:=
 ∀(s:Shared) (us:List Value),K.In s.heap->(us++ds).length=ps.length->BindsTo s fd ⟨us,[]⟩ (ps.zip (us++ds))
theorem Binds.all {K:PySem.W.Frag}{fd:FuncData}{ps:List Str}(h:∀ us:List Value,us.length=ps.length->bindArgs fd ⟨us,[]⟩=pure (ps.zip us)):Binds K fd ps []:=λs us _ hl=>by
 rw[A2I] at hl ⊢
 exact .of_eq (h us hl)
def He (CX:CXT)(X:Cx)(E:XK):Prop:=∀(pins:List (Addr×Obj)) (σ:St) (H:Hp) (s:Shared) (e:Value) (s':Shared),Inv X pins σ H s->CX X.stack H s E e s'->X.xe e s'
section
variable {X:Cx}{CX:CXT}{k:Nat}{f C:Addr}{fd:FuncData}{ps:List Str}{sp:Sp}{dvs:List V}{ds:List Value}{E:XK}{x m:Str}{p pos apos:Pos}{e o:Expr}{es:List Expr}{ta:TE}{t:TA}
theorem a09 {pins:List (Addr×Obj)}{σ:St}{H:Hp}{s:Shared}{Q:VK}{us:List Value}{vs:List V}(F:FnOk X.prog X.w X.K X.mg X.base CX k f fd ps sp)(hr:Room k X.A)(hb:Binds X.K fd ps ds)(hd:Vals dvs ds)(hx:He CX X E)
  (I:Inv X pins σ H s) (r:Vals vs us) (h:sp (vs++dvs) H Q E):wpAny (model X.prog X.w) X.A (call (.ref f) us) (EP X pins σ Q) X.xe s:=by
 have r2:Vals (vs++dvs) (us++ds):=r.append hd
 have hl:(us++ds).length=ps.length:=by rw[<- r2.length];exact F.len _ _ _ _ h
 refine A3G (A2W (F.run X.A X.stack s H ⟨us,[]⟩ (us++ds) (vs++dvs) Q E hr I.env0 (hb s us I.kIn hl) r2 h) λr s' hq=>?_)
 cases r with
 | error e=>exact hx pins σ H s e s' I hq
 | ok fl=>
   cases fl with
   | ret u=>exact I.after hq
   | next=>exact False.elim hq
   | brk=>exact False.elim hq
   | cont=>exact False.elim hq
theorem Zh (F:FnOk X.prog X.w X.K X.mg X.base CX k f fd ps sp)(hr:Room k X.A)(hg:Gl X x)(hm:X.mg x=some (.ref f))(hk:PySem.W.keepIn X.K (.ref f)=true)(hb:Binds X.K fd ps ds)(hd:Vals dvs ds)(hx:He CX X E)
  (ha:PA X (e :: es) t) (hdb:(x==("__debug__":Str))=false:=by decide) (he:starEach (e :: es) X.env=(false,eval e X.env) :: starEach es X.env:=by ac_nf) (hpl:(backTo pos (starEach es X.env)).any (·.1)=false:=by ac_nf) :
  PE X (.Call (.Name x p) (e :: es) [] pos) (Xx sp dvs E t):=by
 intro pins s σ H Q I h
 refine A1H (K4 I hg hm ?_ hdb)
 refine A2E (h₀:=X.base) I.ok.mod.kin hk (thn (ha pos pins s σ H _ I h) λus s1 ⟨vs,H1,I1,r,q⟩=>⟨I1.kIn,?_⟩) he hpl
 exact a09 F hr hb hd hx I1 r q
theorem Yo {pl:Sem Bool}(he:PE X o ta)(c:Cls X.K C)(hm:aq7 X.K C m f)(F:FnOk X.prog X.w X.K X.mg X.base CX k f fd ps sp)(hr:Room k X.A)(hb:Binds X.K fd ps ds)(hd:Vals dvs ds)(hx:He CX X E)(ha:PA X (e :: es) t)
  (hst:starEach (e :: es) X.env=(false,eval e X.env) :: starEach es X.env:=by ac_nf) (hpl:(backTo pos (starEach es X.env)).any (·.1)=false:=by ac_nf)
  (ht:eval (.Call (.Attribute o m apos) (e :: es) [] pos) X.env=(do
   let ov <- eval o X.env
   standAt apos.atName
   let (f,first) <- holding [ov] (getMethod ov m pl)
   callWith pos f first (backTo pos (starEach (e :: es) X.env)) (backToKw pos (keywordEach [] X.env))):=by ac_nf) :
  PE X (.Call (.Attribute o m apos) (e :: es) [] pos) (X8 C m sp dvs E ta t):=by
 intro pins s σ H Q I h
 refine PySem.W.methodCall_KW (pl:=pl) (thn (he pins s σ H _ I h) λu s1 ⟨x,H1,I1,rx,a,dx,fs,ex,ea,l,q⟩=>?_) ht
 subst ex
 obtain rfl:u=Value.ref a:=rx
 refine Pw I1 ea c hm l ?_
 refine A2E (first:=[.ref a]) (h₀:=X.base) I.ok.mod.kin hm.kp (thn (ha pos pins s1 σ H1 _ I1 q) λus s2 ⟨vs,H2,I2,r,q2⟩=>⟨I2.kIn,?_⟩) hst hpl
 exact a09 (us:=.ref a :: us) (vs:=.ref a :: vs) F hr hb hd hx I2 (.cons rfl r) q2
theorem Vg {pl:Sem Bool}(he:PE X o ta)(c:Cls X.K C)(hm:aq7 X.K C m f)(F:FnOk X.prog X.w X.K X.mg X.base CX k f fd ps sp)(hr:Room k X.A)(hb:Binds X.K fd ps ds)(hd:Vals dvs ds)(hx:He CX X E)
  (ht:eval (.Call (.Attribute o m apos) [] [] pos) X.env=(do
   let ov <- eval o X.env
   standAt apos.atName
   let (f,first) <- holding [ov] (getMethod ov m pl)
   callWith pos f first (backTo pos (starEach [] X.env)) (backToKw pos (keywordEach [] X.env))):=by ac_nf) :
  PE X (.Call (.Attribute o m apos) [] [] pos) (X8 C m sp dvs E ta at4):=by
 intro pins s σ H Q I h
 refine PySem.W.methodCall_KW (pl:=pl) (thn (he pins s σ H _ I h) λu s1 ⟨x,H1,I1,rx,a,dx,fs,ex,ea,l,q⟩=>?_) ht
 subst ex
 obtain rfl:u=Value.ref a:=rx
 refine Pw I1 ea c hm l ?_
 exact PySem.W.callWith_K0 (first:=[.ref a]) I1.kIn hm.kp (a09 (us:=[.ref a]) (vs:=[.ref a]) F hr hb hd hx I1 (.cons rfl .nil) q)
structure Mk (K:PySem.W.Frag)(C f:Addr):Prop where
 makes:PySem.W.makesIn K C=true
 init:PySem.W.findIn K (.ref C) "__init__" = some (some (.ref f))
 fn:PySem.W.isFn K (.ref f)=true
 kp:PySem.W.keepIn K (.ref C)=true
theorem a90 {pins:List (Addr×Obj)}{σ:St}{H:Hp}{s:Shared}{Q:VK}{us:List Value}{vs:List V}(M:Mk X.K C f)(F:FnOk X.prog X.w X.K X.mg X.base CX k f fd ps sp)(hr:Room (k+1) X.A)(hb:Binds X.K fd ps ds)(hd:Vals dvs ds)
  (hx:He CX X E) (I:Inv X pins σ H s) (r:Vals vs us)
  (h:∀ x dx,H x=none->H dx=none->dx≠x->sp (.ref x :: (vs++dvs)) (upd (upd H dx (.own x)) x (.ins C dx [])) (λv H2=>v = .non/\Q (.ref x) H2) E) :
  wpAny (model X.prog X.w) X.A (call (.ref C) us) (EP X pins σ Q) X.xe s:=by
 have hq:=h (s.heap.objs.size+1) s.heap.objs.size (I.hok.fresh (A20 _)) (I.hok.fresh (A07 _)) (A0J (A3A _))
 have I2:=Inv.made (C:=C) I
 have r2:Vals (V.ref (s.heap.objs.size+1) :: (vs++dvs)) (Value.ref (s.heap.objs.size+1) :: (us++ds)):=.cons rfl (r.append hd)
 have hl:(Value.ref (s.heap.objs.size+1) :: us++ds).length=ps.length:=by
  have e:=r2.length
  rw[F.len _ _ _ _ hq] at e
  exact e.symm
 refine A3G (a77 (f:=f) I.kIn M.makes M.init (A1M.mp M.fn) (A2W (F.run _ X.stack _ _ ⟨Value.ref (s.heap.objs.size+1) :: us,[]⟩ (Value.ref (s.heap.objs.size+1) :: (us++ds)) _ _ E (hr.make C us [])
  (I2.env0.make C us []) (hb _ (Value.ref (s.heap.objs.size+1) :: us) I2.kIn hl) r2 hq) λr s' hq'=>?_))
 cases r with
 | error e=>exact hx pins σ _ _ e s' I2 hq'
 | ok fl=>
   cases fl with
   | ret u=>
     obtain⟨v,H',I3,rv,ev,q3⟩:=I2.after hq'
     subst ev
     exact⟨rv,⟨V.ref (s.heap.objs.size+1),H',I3,rfl,q3⟩⟩
   | next=>exact False.elim hq'
   | brk=>exact False.elim hq'
   | cont=>exact False.elim hq'
theorem ak2 (M:Mk X.K C f)(F:FnOk X.prog X.w X.K X.mg X.base CX k f fd ps sp)(hr:Room (k+1) X.A)(hg:Gl X x)(hm:X.mg x=some (.ref C))(hb:Binds X.K fd ps ds)(hd:Vals dvs ds)(hx:He CX X E)
  (ha:PA X (e :: es) t) (hdb:(x==("__debug__":Str))=false:=by decide) (he:starEach (e :: es) X.env=(false,eval e X.env) :: starEach es X.env:=by ac_nf) (hpl:(backTo pos (starEach es X.env)).any (·.1)=false:=by ac_nf) :
  PE X (.Call (.Name x p) (e :: es) [] pos) (aE1 C sp dvs E t):=by
 intro pins s σ H Q I h
 refine A1H (K4 I hg hm ?_ hdb)
 refine A2E (h₀:=X.base) I.ok.mod.kin M.kp (thn (ha pos pins s σ H _ I h) λus s1 ⟨vs,H1,I1,r,q⟩=>⟨I1.kIn,?_⟩) he hpl
 exact a90 M F hr hb hd hx I1 r q
end
section
variable {X:Cx}{CX:CXT}{k:Nat}{f C:Addr}{fd:FuncData}{ps ks:List Str}{sp:Sp}{E:XK}{x m:Str}{p pos apos kpos:Pos}{e o:Expr}{es:List Expr}{kws:List Keyword}{te ta:TE}{t tk:TA}{nm:Option Str}
variable {g:List Value->List Value->List Value}{gV:List V->List V->List V}
end
structure Aj (N P:List Str)(sc:Scope):Prop where
 kind:sc.kind = .function
 co:sc.isCoroutine=false
 gen:sc.isGenerator=false
 nd:N.Nodup
 pre:N.take P.length=P
 par:∀ x∈P,sc.names.lookup x=some .local\/sc.names.lookup x=some .cell
 nofree:∀ y∈sc.names,y.2 ≠ .free
theorem T6 {kindOf:Str->Option NameKind}{x:Str}:∀ {binds:List (Str×Value)} {m:Str->Option Value},(∀ v,(x,v)∉binds)->bindL kindOf binds m x=m x
 | [],_,_=>rfl
 | (n,v) :: r,m,h=>by
   unfold bindL
   rw[T6 λw hw=>h w (A0C _ hw)]
   split
   . have:x≠n:=by rintro rfl;exact h v A0V
     simp[this]
   rfl
theorem Tm {kindOf:Str->Option NameKind}{x:Str}:∀ {binds:List (Str×Value)} {m:Str->Option Value},(∀ v,(x,v)∉binds)->bindC kindOf binds m x=m x
 | [],_,_=>rfl
 | (n,v) :: r,m,h=>by
   unfold bindC
   rw[Tm λw hw=>h w (A0C _ hw)]
   split
   . rfl
   have:x≠n:=by rintro rfl;exact h v A0V
   simp[this]
theorem T3 {kindOf:Str->Option NameKind} {x:Str} {v:Value}:∀ {P:List Str} {vs:List Value} {i:Nat} {m:Str->Option Value},P.Nodup->P[i]? = some x->vs[i]? = some v->kindOf x=some .local ->
  bindL kindOf (P.zip vs) m x=some v
 | [],_,_,_,_,h,_,_=>by simp at h
 | _ :: _,[],_,_,_,_,h,_=>by simp at h
 | p :: P,w :: vs,0,m,nd,h1,h2,hk=>by
   simp at h1 h2;subst h1;subst h2
   show bindL kindOf ((p,w) :: P.zip vs) m p=_
   unfold bindL
   rw[T6 λv hv=>(A13.mp nd).1 (A2Y hv).1,A11 hk]
   simp
 | p :: P,w :: vs,i+1,m,nd,h1,h2,hk=>by
   show bindL kindOf ((p,w) :: P.zip vs) m x=_
   unfold bindL
   exact T3 (i:=i) (List.nodup_cons.mp nd).2 (by simpa using h1) (by simpa using h2) hk
theorem Sn {kindOf:Str->Option NameKind} {x:Str} {v:Value}:∀ {P:List Str} {vs:List Value} {i:Nat} {m:Str->Option Value},P.Nodup->P[i]? = some x->vs[i]? = some v->kindOf x≠some .local ->
  bindC kindOf (P.zip vs) m x=some v
 | [],_,_,_,_,h,_,_=>by simp at h
 | _ :: _,[],_,_,_,_,h,_=>by simp at h
 | p :: P,w :: vs,0,m,nd,h1,h2,hk=>by
   simp at h1 h2;subst h1;subst h2
   show bindC kindOf ((p,w) :: P.zip vs) m p=_
   unfold bindC
   rw[Tm λv hv=>(A13.mp nd).1 (A2Y hv).1,A0Y hk]
   simp
 | p :: P,w :: vs,i+1,m,nd,h1,h2,hk=>by
   show bindC kindOf ((p,w) :: P.zip vs) m x=_
   unfold bindC
   exact Sn (i:=i) (List.nodup_cons.mp nd).2 (by simpa using h1) (by simpa using h2) hk
def start (N:List Str)(vs:List V):St:=vs.map some++List.replicate (N.length-vs.length) none
def Vl (CX:CXT)(P:Program)(w:World)(K:PySem.W.Frag)(mg:Str->Option Value)(base:Heap)(N:List Str)(qual:Str)(scope:Scope)(f:Addr)(cd:Value)(A:Around)(outer:List Env)(s:Shared)(H:Hp)(E:XK):Cx where
 prog:=P
 w:=w
 K:=K
 mg:=mg
 base:=base
 A:=A.deeper (envOfC qual scope s.heap.objs.size f cd)
 N:=N
 s₀:=s
 H₀:=H
 env:=envOfC qual scope s.heap.objs.size f cd
 outer:=outer
 stack:=envOfC qual scope s.heap.objs.size f cd :: outer
 ex:=[]
 calm:=true
 fn:=λ_=>true
 pn:=[]
 xe:=λe s'=>wpAny (model P w) (A.deeper (envOfC qual scope s.heap.objs.size f cd)) (leaving (envOfC qual scope s.heap.objs.size f cd) e) (λ_ s''=>CX outer H s E e s'') (λe' s''=>CX outer H s E e' s'') s'
theorem Vq {sc:Scope}{n:Nat}{x:Str}(h:sc.names.lookup x=some .cell):∃ c,(cellsFrom n sc.names []).lookup x=some c:=by
 have q:=A45 sc.names n [] (.inl h)
 exact Option.isSome_iff_exists.mp q
theorem Tl {CX:CXT}{P:Program}{w:World}{K:PySem.W.Frag}{mg:Str->Option Value}{base:Heap}{N ps:List Str}{qual:Str}{scope:Scope}{f:Addr}{cd:Value}{A:Around}{outer:List Env}{s s1:Shared}{H:Hp}{E:XK}{us:List Value}{vs:List V}
  (S:Aj N ps scope) (hd:A.handled=none) (e0:Env0 P w K mg base A outer s H) (hl:vs.length=ps.length) (r:Vals vs us)
  (x:InCallC s s.heap.objs.size (bindL (envOfC qual scope s.heap.objs.size f cd).kindOf (ps.zip us) λ_=>none) (cellsFrom (s.heap.objs.size+1) scope.names []) (bindC (envOfC qual scope s.heap.objs.size f cd).kindOf (ps.zip us) λ_=>none) s1) :
  Inv (Vl CX P w K mg base N qual scope f cd A outer s H E) [] (start N vs) H s1:=by
 have hpl:ps.length<=N.length:=by have:=congrArg List.length S.pre;rw[A16] at this;omega
 obtain⟨h1,tk,rfl,hk⟩:=x.done
 have noA:∀ b:Addr,b∉(Vl CX P w K mg base N qual scope f cd A outer s H E).ex:=λb z=>absurd (show b∈([]:List Addr) from z) nofun
 refine⟨⟨e0.mod,S.kind,rfl,rfl,A07 _,λy z c h1 h2=>?_,λy hy=>?_,λy c _ h=>?_,λ_=>hd,Around.frames_deeper e0.frames,.inr ⟨rfl,rfl⟩,λb z=>absurd z (noA b),e0.bs,e0.bsz,λb _ _=>noA b,λb z=>absurd z (noA b),e0.funs,e0.frf⟩,
  rfl,e0.bare,Un.kept hk,⟨_,x.toInCall.ns,λi y v h1 h2 h3=>?_⟩,λy c h=>⟨_,x.cell y c h⟩,e0.hok.fresh (A07 _),λy c h=>?_,λp hp=>absurd (show p∈([]:List (Addr×Obj)) from hp) nofun,e0.hok.kept hk,?_⟩
 . exact name_of_addr x.apart (A27 h1) (A27 h2)
 . have hy:scope.names.lookup y=some .cell\/scope.names.lookup y=some .free:=hy
   rcases hy with hy | hy
   . exact Vq hy
   exact absurd rfl (S.nofree _ (A27 hy))
 . exact A25 (x.above y c (A27 h))
 . have hi:i<vs.length:=by
    unfold start at h2
    by_cases hi:i<vs.length
    . exact hi
    rw[List.getElem?_append_right (by simpa using hi)] at h2
    rw[A3Y] at h2
    split at h2<;>cases h2
   have ha:vs[i]? = some v:=by
    unfold start at h2
    rw[List.getElem?_append_left (by simpa using hi),List.getElem?_map] at h2
    cases e:vs[i]? with
    | none=>rw[e] at h2;cases h2
    | some a=>rw[e] at h2;cases h2;rfl
   obtain⟨u,hu,rv⟩:=r.get ha
   have hp:ps[i]? = some y:=by
    rw[<- S.pre,List.getElem?_take_of_lt (by omega)];exact h1
   have ndP:ps.Nodup:=by rw[<- S.pre];exact S.nd.sublist (List.take_sublist _ _)
   refine⟨u,rv,?_⟩
   rcases S.par y (A04 hp) with k | k
   . exact .inl ⟨k,T3 ndP hp hu k⟩
   obtain⟨c,e⟩:=Vq (n:=s.heap.objs.size+1) k
   refine .inr ⟨.inl k,c,e,?_⟩
   have q:=x.cell y c e
   rw[Sn ndP hp hu (by show scope.names.lookup y≠_;rw[k];decide)] at q
   exact q
 . exact e0.hok.fresh (A25 (x.above y c (A27 h)))
 unfold start
 show _=N.length
 rw[A0H,A00,A1N]
 omega
theorem ay8 {CX:CXT}{P:Program}{w:World}{K:PySem.W.Frag}{mg:Str->Option Value}{base:Heap}{k:Nat}{f:Addr}{name qual:Str}{params:Arguments}{body:List Stmt}{scope:Scope}{dV kV doc pm cdv ct oc:Value}{an od:Option Addr}
  {osl:Array (Option Value)} {N ps:List Str} {sp:Sp} (lk:K.lookup f=some ⟨oc,od,.func (PySem.W.fnOf name qual params body scope dV kV doc pm an cdv ct),osl⟩) (hcd:PySem.W.codeIn K cdv qual=true) (S:Aj N ps scope)
  (len:∀ vs H Q E,sp vs H Q E->vs.length=ps.length)
  (hbody:∀(A:Around) (outer:List Env) (s:Shared) (H:Hp) (vs:List V) (Q:VK) (E:XK),Room k (A.deeper (envOfC qual scope s.heap.objs.size f cdv))->sp vs H Q E ->
   ∃ t,PSs (Vl CX P w K mg base N qual scope f cdv A outer s H E) body t/\t { nx:=λ_ H'=>Q .non H',rt:=Q } (start N vs) H) :
  FnOk P w K mg base CX (k+1) f (PySem.W.fnOf name qual params body scope dV kV doc pm an cdv ct) ps sp:=by
 refine⟨len,λA outer s H args us vs Q E hr e0 hb r hsp=>?_⟩
 have hl:=len _ _ _ _ hsp
 have KX:K.In s.heap:=e0.mod.kin.keeps λb o e=>(e0.bs b o e).1
 have lim:s.heap.NoLimit:=e0.mod.nolimit.keeps λb o e=>(e0.bs b o e).1
 have hkind:∀ y∈ps.zip us,scope.names.lookup y.1=some .local\/(scope.names.lookup y.1=some .cell/\((cellsFrom (s.heap.objs.size+1) scope.names []).lookup y.1).isSome=true):=λ⟨n,v⟩ hy=>by
  rcases S.par n (A2Y hy).1 with q | q
  . exact .inl q
  exact .inr ⟨q,A45 _ _ _ (.inl q)⟩
 refine codeAny_call_function hr.depth (KX _ _ lk) rfl S.co S.gen rfl (PySem.W.codeRec_of KX hcd) (hb _ _ _ _ ?_)
 refine wpAny_newFunctionEnv_cells S.kind hkind λenv he s1 x=>?_
 subst he
 refine⟨lim.keeps x.toInCall.keep,codeAny_func ?_⟩
 obtain⟨t,ht,hq⟩:=hbody A outer s H vs Q E (hr.deeper _) hsp
 have I:Inv (Vl CX P w K mg base N qual scope f cdv A outer s H E) [] (start N vs) H s1:=Tl S hr.hd e0 hl r x
 refine A1O (ht [] s1 (start N vs) H _ I hq) (λfl s' hs=>?_) λe s' hs=>hs
 have fin:∀ {σ':St} {H':Hp} {v:V} {u:Value},Inv (Vl CX P w K mg base N qual scope f cdv A outer s H E) [] σ' H' s'->RelV v u->Q v H'->CE outer P w H s Q u s':=
  fun {σ' H' v u} J rv q=>⟨v,H',J.os,J.bare,J.base,J.hok,rv,q⟩
 cases fl with
 | ret u=>
   obtain⟨v,σ',H',J,rv,q⟩:=hs
   exact fin J rv q
 | next=>
   obtain⟨σ',H',J,q⟩:=hs
   exact fin (v:=V.non) (u:=Value.none) J rfl q
 | brk=>
   obtain⟨_,_,_,q⟩:=hs
   exact False.elim q
 | cont=>
   obtain⟨_,_,_,q⟩:=hs
   exact False.elim q
section
variable {X:Cx}{x:Str}{p pos:Pos}{e:Expr}{es:List Expr}{t:TA}{id T:String}{r:List V->Hp->VK->Prop}
def tCB (r:List V->Hp->VK->Prop)(t:TA):TE:=fun σ H Q=>t σ H λvs H1=>r vs H1 Q
theorem Ag (hc:CallR X (.builtin id) r)(hg:Gl X x)(hm:X.mg x=none)(hv:bootBuiltins x=some (.builtin id))(ha:PA X (e :: es) t)(hn:x ≠ "__name__":=by decide)(hdb:(x==("__debug__":Str))=false:=by decide)
  (he:starEach (e :: es) X.env=(false,eval e X.env) :: starEach es X.env:=by ac_nf) (hpl:(backTo pos (starEach es X.env)).any (·.1)=false:=by ac_nf):PE X (.Call (.Name x p) (e :: es) [] pos) (tCB r t):=by
 intro pins s σ H Q I h
 refine A1H (Li I hg hm hv ?_ hn hdb)
 exact PyProof.Rows.callWith_builtin1 (thn (ha pos pins s σ H _ I h) λus s1 ⟨vs,H1,I1,r1,q1⟩=>hc pins s1 σ H1 vs us Q I1 r1 q1) he hpl
theorem Ay (hc:CallR X (.type T) r)(hg:Gl X x)(hm:X.mg x=none)(hv:bootBuiltins x=some (.type T))(ha:PA X (e :: es) t)(hn:x ≠ "__name__":=by decide)(hdb:(x==("__debug__":Str))=false:=by decide)
  (he:starEach (e :: es) X.env=(false,eval e X.env) :: starEach es X.env:=by ac_nf) (hpl:(backTo pos (starEach es X.env)).any (·.1)=false:=by ac_nf):PE X (.Call (.Name x p) (e :: es) [] pos) (tCB r t):=by
 intro pins s σ H Q I h
 refine A1H (Li I hg hm hv ?_ hn hdb)
 exact A1T (thn (ha pos pins s σ H _ I h) λus s1 ⟨vs,H1,I1,r1,q1⟩=>hc pins s1 σ H1 vs us Q I1 r1 q1) he hpl
end
end L2
namespace HT
open PySem PyProof.Rows
section
open PySem.SeqAt
open PySem.AutoSeq1 (wpAny_loadPart')
open PySem.MeetsSeq PySem.MeetsSeq2 PySem.MeetsSeq3
end
section
variable {prog:Program}{w:World}{A:Around}{E:Value->Shared->Prop}{s:Shared}
theorem cat_tup {t b:Addr}{vs ws:List Value}{Q:Value->Shared->Prop}(ht:IsTup s.heap t vs.toArray)(hb:IsTup s.heap b ws.toArray)(hv:vs≠[])
  (h1:ws=[]->Q (.ref t) s) (h2:ws≠[]->Q (.ref s.heap.objs.size) { s with heap:=s.heap.push { cls:=.type "tuple",data:=.seq (vs++ws).toArray } })
  (hsz:vs.length+ws.length<=sizeLine):wpAny (model prog w) A (binaryOp .Add (.ref t) (.ref b)) Q E s:=by
 obtain⟨⟨cls,dd,data,sl⟩,ho,hc,n,hd⟩:=id ht
 obtain⟨⟨cls2,dd2,data2,sl2⟩,ho2,hc2,n2,hd2⟩:=id hb
 simp only at hc hd hc2 hd2
 subst hc hd hc2 hd2
 have e:vs.toArray++ws.toArray=(vs++ws).toArray:=by simp
 by_cases hw:ws=[]
 . exact concat_meets ⟨_,ho,rfl⟩ ⟨_,ho2,rfl⟩ noFill_tuple_add seq_tuple_add A46 A3Z (A3T _ _)
    (tuple_addW1 t b vs.toArray ws.toArray n n2 dd dd2 sl sl2 (by simpa using hv) (by simp[hw])) ⟨ho,ho2,h1 hw⟩
 refine concat_meets ⟨_,ho,rfl⟩ ⟨_,ho2,rfl⟩ noFill_tuple_add seq_tuple_add A46 A3Z (A3T _ _)
  (tuple_addW2 t b vs.toArray ws.toArray n n2 dd dd2 sl sl2 (by simpa using hv) (by simpa using hw) (by rw[List.size_toArray,List.size_toArray];exact hsz)) ⟨ho,ho2,?_⟩
 rw[e]
 exact h2 hw
def sIx (n d:Nat):Option Int->Nat
 | none=>d
 | some v=>if v<0 then(v+(n:Int)).toNat else min v.toNat n
theorem sIx_none (n d:Nat):sIx n d none=d:=rfl
theorem sIx_nat (n d k:Nat):sIx n d (some (k:Int))=min k n:=by
 show(if(k:Int)<0 then((k:Int)+(n:Int)).toNat else min (k:Int).toNat n)=min k n
 rw [A0Y (by omega),Int.toNat_natCast]
theorem az0 (n d:Nat)(hd:d<=n)(o:Option Int):sIx n d o<=n:=by
 cases o with
 | none=>exact hd
 | some v=>
   show(if v<0 then(v+(n:Int)).toNat else min v.toNat n)<=n
   by_cases hv:v<0
   . rw[A11 hv];omega
   rw[A0Y hv];exact A3B _ _
theorem a48 (v:Int)(n d:Nat):(if v<0 then max (v+(n:Int)) 0 else min v (n:Int))=((sIx n d (some v):Nat):Int):=by
 show(if v<0 then max (v+(n:Int)) 0 else min v (n:Int))=(((if v<0 then(v+(n:Int)).toNat else min v.toNat n):Nat):Int)
 by_cases hv:v<0
 . simp only[if_pos hv];omega
 simp only[if_neg hv];omega
theorem Wv (lo hi:Option Int)(n:Nat):Builtin.Slice.sliceAdjust lo hi 1 (n:Int)=(((sIx n 0 lo:Nat):Int),((sIx n n hi:Nat):Int)):=by
 have h1:¬ ((1:Int)<0):=by omega
 unfold Builtin.Slice.sliceAdjust
 simp only[h1,if_false]
 refine Prod.ext ?_ ?_
 . cases lo with
   | none=>rfl
   | some v=>exact a48 v n 0
 cases hi with
 | none=>rfl
 | some v=>exact a48 v n n
theorem Xl (i j:Nat):Builtin.Slice.slicePlaces (i:Int) (j:Int) 1=j-i:=by
 unfold Builtin.Slice.slicePlaces
 have h1:(1:Int)>0:=by omega
 simp only[h1,if_true,Int.ediv_one]
 split<;>omega
theorem Ps {v:Value}{o:Option Int}{Q:Option Int->Shared->Prop}(p:IsPart v o)(h:Q o s):wpAny (model prog w) A (Builtin.Slice.slicePartIndex v) Q E s:=by
 cases p with
 | none=>exact slicePart_none h
 | int i t=>exact slicePart_int h
theorem sliceApplied_gen {sl:Addr}{vl vu:Value}{lo hi:Option Int}{n:Nat}{Q:Int×Int×Nat->Shared->Prop}(hs:s.heap.IsSliceOf sl vl vu .none)(pl:IsPart vl lo)(pu:IsPart vu hi)
  (h:Q (((sIx n 0 lo:Nat):Int),1,sIx n n hi-sIx n 0 lo) s):wpAny (model prog w) A (Builtin.Slice.sliceApplied (.ref sl) (pure (n:Int))) Q E s:=by
 obtain⟨os,hos,hcs,hds⟩:=id hs
 unfold Builtin.Slice.sliceApplied Builtin.Slice.sliceFields
 refine A01 (A01 (A28 hos hds (x:=vl) rfl (A01 (A28 hos hds (x:=vu) rfl (A01 (A28 hos hds (x:=.none) rfl (A06 ?_)))))))
 refine A01 (slicePart_none ?_)
 show wpAny _ _ (if((1:Int)==0)=true then _ else _) _ _ s
 rw[A0Y ∅]
 refine A01 (Ps pl (A01 (Ps pu (A01 (A06 ?_)))))
 show wpAny _ _ (match Builtin.Slice.sliceAdjust lo hi 1 (n:Int) with | (lo,hi)=>pure (lo,(1:Int),Builtin.Slice.slicePlaces lo hi 1)) _ _ s
 rw[Wv lo hi n]
 show wpAny _ _ (pure (((sIx n 0 lo:Nat):Int),(1:Int),Builtin.Slice.slicePlaces ((sIx n 0 lo:Nat):Int) ((sIx n n hi:Nat):Int) 1)) _ _ s
 rw[Xl]
 exact A06 h
theorem ad3 (xs:Array Value)(i k:Nat):((List.range k).filterMap λ(m:Nat)=>xs[((i:Int)+(m:Int)*1).toNat]?).toArray=((xs.toList.drop i).take k).toArray:=by
 have e:(λ(m:Nat)=>xs[((i:Int)+(m:Int)*1).toNat]?)=λm=>xs[i+m]?:=by
  funext m
  have:((i:Int)+(m:Int)*1).toNat=i+m:=by omega
  rw[this]
 rw[e]
 have:=pick_run xs i k
 rw[List.filterMap_map] at this
 have e2:((λx=>xs[x]?)∘λx=>i+x)=λm=>xs[i+m]?:=rfl
 rw[e2] at this
 rw[this]
theorem getItem_tuple_cut {t sl:Addr}{items:Array Value}{vl vu:Value}{lo hi:Option Int}{Q:Value->Shared->Prop}(ht:IsTup s.heap t items)(hs:s.heap.IsSliceOf sl vl vu .none)(pl:IsPart vl lo)(pu:IsPart vu hi)
  (hw:¬ (sIx items.size 0 lo=0/\sIx items.size items.size hi=items.size))
  (h:Q (.ref s.heap.objs.size) { s with heap:=s.heap.push { cls:=.type "tuple",data:=.seq ((items.toList.drop (sIx items.size 0 lo)).take (sIx items.size items.size hi-sIx items.size 0 lo)).toArray } })
  (hsz:items.size<=sizeLine):wpAny (model prog w) A (getItem (.ref t) (.ref sl)) Q E s:=by
 have htake:sizeOk (.seq ((items.toList.drop (sIx items.size 0 lo)).take (sIx items.size items.size hi-sIx items.size 0 lo)).toArray):=by
  show((items.toList.drop (sIx items.size 0 lo)).take (sIx items.size items.size hi-sIx items.size 0 lo)).toArray.size<=sizeLine
  rw[A0N,A16,A2U,A4K]
  omega
 have hj:sIx items.size items.size hi<=items.size:=az0 _ _ (A07 _) hi
 obtain⟨os,hos,hcs,hds⟩:=id hs
 have hTs:s.TypeIs (.ref sl) "slice":=⟨os,hos,hcs⟩
 unfold getItem
 try with_reducible refine A1F ?_
 first | refine A01 (A06 ?_) | skip
 refine A01 (wpAny_sequenceKey ht.typeIs ∅ ?_)
 refine A01 (A2Z (name:=Str.ofString "__getitem__") ht.typeIs A22
  (A3C A22 ht.typeIs entry_tuple_getitem ?_ (args_tuple_getitem _ _)))
 show wpAny _ _ (Builtin.Tuple.tupleItemsOf (.ref t) >>= _) _ _ s
 refine A01 (tupleItemsOf_ ht ?_)
 refine A01 (A49 hTs ?_)
 rw[A11 ∅]
 refine A01 (sliceApplied_gen hs pl pu ?_)
 have hno:¬ ((((sIx items.size 0 lo:Nat):Int)==0&&(1:Int)==1&&(sIx items.size items.size hi-sIx items.size 0 lo)==items.size)=true):=by
  intro q
  rw[A19,A19] at q
  have q1:((sIx items.size 0 lo:Nat):Int)=0:=eq_of_beq q.1.1
  have q2:sIx items.size items.size hi-sIx items.size 0 lo=items.size:=eq_of_beq q.2
  exact hw ⟨by omega,by omega⟩
 show wpAny _ _ (if(((sIx items.size 0 lo:Nat):Int)==0&&(1:Int)==1&&(sIx items.size items.size hi-sIx items.size 0 lo)==items.size)=true then _ else _) _ _ s
 rw[A0Y hno,ad3]
 first
  | exact A01 (m:=Builtin.Tuple.tupleExact _) (A23 (A06 ⟨_,rfl,A06 h⟩) htake)
  | exact A01 (m:=Builtin.Tuple.tupleExact _) (A23 (A01 (A06 (A06 ⟨_,rfl,A06 h⟩))) htake)
  | exact A01 (A01 (m:=Builtin.Tuple.tupleExact _) (A23 (A06 (A06 ⟨_,rfl,A06 h⟩)) htake))
  | exact A01 (A01 (m:=Builtin.Tuple.tupleExact _) (A23 (A06 ⟨_,rfl,A06 h⟩) htake))
end
end HT
namespace L2
open PySem PySem.Spec PyProof.Rows
abbrev TO:=St->Hp->(Option Int->Hp->Prop)->Prop
def PO (X:Cx)(e:Option Expr)(t:TO):Prop:=
 ∀(pins:List (Addr×Obj)) (s:Shared) (σ:St) (H:Hp) (Q:Option Int->Hp->Prop),Inv X pins σ H s->t σ H Q ->
  wpAny (model X.prog X.w) X.A (evalPart e X.env) (λu s'=>∃ o H',Inv X pins σ H' s'/\IsPart u o/\Q o H') X.xe s
def Y7:TO:=λ_ H Q=>Q none H
def aw1 (t:TE):TO:=fun σ H Q=>t σ H λx H1=>∃ i,x = .int i/\Q (some i) H1
section
variable {X:Cx}{e:Expr}{te:TE}{lo hi:Option Expr}{tl th:TO}{pos p2:Pos}
theorem Mh:PO X none Y7:=by
 intro pins s σ H Q I h
 rw[evalPart_none]
 exact A06 ⟨none,H,I,.none,h⟩
theorem Em (h:PE X e te):PO X (some e) (aw1 te):=by
 intro pins s σ H Q I hw
 rw[evalPart_some]
 refine thn (h pins s σ H _ I hw) λu s1 ⟨x,H1,I1,r1,q1⟩=>?_
 obtain⟨i,rfl,q⟩:=q1
 obtain⟨t,rfl⟩:=r1
 exact⟨some i,H1,I1,.int i t,q⟩
def SlR (X:Cx)(r:V->Option Int->Option Int->Hp->VK->Prop):Prop:=
 ∀(pins:List (Addr×Obj)) (s:Shared) (σ:St) (H:Hp) (x:V) (v vl vu:Value) (lo hi:Option Int) (sl:Addr) (Q:VK),Inv X pins σ H s->RelV x v->s.heap.IsSliceOf sl vl vu .none->IsPart vl lo->IsPart vu hi->r x lo hi H Q ->
  ∃ T id,typeLookup (.type T) "__getitem__" = pure (some (.builtin id))/\s.TypeIs v T/\wpAny (model X.prog X.w) X.A (getItem v (.ref sl)) (EP X pins σ Q) X.xe s
theorem SlR.or {r r':V->Option Int->Option Int->Hp->VK->Prop}(h:SlR X r)(h':SlR X r'):SlR X (λx lo hi H Q=>r x lo hi H Q\/r' x lo hi H Q):=by
 intro pins s σ H x v vl vu lo hi sl Q I rx hs pl pu q
 rcases q with q | q
 . exact h pins s σ H x v vl vu lo hi sl Q I rx hs pl pu q
 exact h' pins s σ H x v vl vu lo hi sl Q I rx hs pl pu q
def tSl (r:V->Option Int->Option Int->Hp->VK->Prop)(te:TE)(tl th:TO):TE:=fun σ H Q=>te σ H λx H1=>tl σ H1 λl H2=>th σ H2 λu H3=>r x l u H3 Q
theorem Fr {r:V->Option Int->Option Int->Hp->VK->Prop}(hr:SlR X r)(he:PE X e te)(hl:PO X lo tl)(hu:PO X hi th):PE X (.Subscript e (.Slice lo hi none p2) pos) (tSl r te tl th):=by
 intro pins s σ H Q I h
 refine Subscript_ (thn (he pins s σ H _ I h) λv s1 ⟨x,H1,I1,r1,q1⟩=>?_)
 refine wpAny_Slice (thn (hl pins s1 σ H1 _ I1 q1) λvl s2 ⟨l,H2,I2,pl,q2⟩=>thn (hu pins s2 σ H2 _ I2 q2) λvu s3 ⟨u,H3,I3,pu,q3⟩=>?_)
 rw[evalPart_none]
 refine A06 ?_
 have I4:Inv X pins σ H3 { s3 with heap:=s3.heap.push { cls:=.type "slice",data:=.fields #[vl,vu,.none] } }:=I3.kept (t':=s3.toks) λb ob q=>A02 _ q
 obtain⟨T,id,hT,ht,hg⟩:=hr pins { s3 with heap:=s3.heap.push { cls:=.type "slice",data:=.fields #[vl,vu,.none] } } σ H3 x v vl vu l u s3.heap.objs.size Q I4 r1 (Heap.IsSliceOf.new ..) pl pu q3
 show wpAny (model X.prog X.w) X.A (subscriptTail e (.Slice lo hi none p2) v (.ref s3.heap.objs.size)) (EP X pins σ Q) X.xe { s3 with heap:=s3.heap.push { cls:=.type "slice",data:=.fields #[vl,vu,.none] } }
 exact tail_any (ops:=[.ref s3.heap.objs.size,v]) ht hT hg ⋯
def Ut (xs:List V)(lo hi:Option Int):List V:=(xs.drop (HT.sIx xs.length 0 lo)).take (HT.sIx xs.length xs.length hi-HT.sIx xs.length 0 lo)
theorem Ng (xs:List V)(lo hi:Option Int):(Ut xs lo hi).length<=xs.length:=by
 unfold Ut
 rw[A16,A2U]
 omega
def aH2 (K:PySem.W.Frag):V->Option Int->Option Int->Hp->VK->Prop:=λx lo hi H Q=>∃ a xs,x = .ref a/\SqT K H a xs /\
 ¬ (HT.sIx xs.length 0 lo=0/\HT.sIx xs.length xs.length hi=xs.length)/\∀ p,H p=none->Q (.ref p) (upd H p (.tup (Ut xs lo hi)))
theorem sl_tup:SlR X (aH2 X.K):=by
 intro pins s σ H x v vl vu lo hi sl Q I rx hs pl pu h
 obtain⟨a,xs,rfl,hx,hw,q⟩:=h
 cases rx
 obtain⟨its,r,ht,hz⟩:=I.tuple hx
 have hlen:its.toArray.size=xs.length:=by rw[A0N];exact r.length.symm
 refine⟨"tuple",_,PyProof.Rows.slot_tuple_getitem.lookup,ht.typeIs,?_⟩
 refine HT.getItem_tuple_cut ht hs pl pu (by rw[hlen];exact hw) ?_ (by rw[hlen];exact hz)
 rw[hlen]
 refine⟨.ref s.heap.objs.size,_,I.laid (t':=s.toks) (o:=.tup (Ut xs lo hi)) (λb ob q=>A02 _ q) (A07 _) ?_,rfl,q _ (I.hok.fresh (A07 _))⟩
 exact⟨A0L (Ng xs lo hi) hz,_,(r.drop (HT.sIx xs.length 0 lo)).take (HT.sIx xs.length xs.length hi-HT.sIx xs.length 0 lo),IsTupN.new _ _⟩
def az9 (K:PySem.W.Frag):R2:=λx y H Q=>∃ a b xs ys,x = .ref a/\y = .ref b/\SqT K H a xs/\SqT K H b ys/\xs≠[]/\xs.length+ys.length<=sizeLine /\
 (ys=[]->Q (.ref a) H)/\(ys≠[]->∀ p,H p=none->Q (.ref p) (upd H p (.tup (xs++ys))))
theorem Vals.nil_iff {xs:List V}{us:List Value}(r:Vals xs us):us=[]↔xs=[]:=by
 cases r with
 | nil=>simp
 | cons _ _=>simp
theorem op_catT:OpR X (binaryOp .Add) (az9 X.K):=by
 intro pins s σ H x y v u Q I rx ry h
 obtain⟨a,b,xs,ys,rfl,rfl,ha,hb,hx,hz,q1,q2⟩:=h
 cases rx
 cases ry
 obtain⟨its,r1,p1,_⟩:=I.tuple ha
 obtain⟨its2,r2,p2,_⟩:=I.tuple hb
 refine HT.cat_tup p1 p2 (λz=>hx (r1.nil_iff.mp z)) (λz=>⟨.ref a,H,I,rfl,q1 (r2.nil_iff.mp z)⟩) (λz=>?_) (by rw[<- r1.length,<- r2.length];exact hz)
 refine⟨.ref s.heap.objs.size,_,I.laid (t':=s.toks) (o:=.tup (xs++ys)) (λb ob q=>A02 _ q) (A07 _) ?_,rfl,q2 (λw=>z (r2.nil_iff.mpr w)) _ (I.hok.fresh (A07 _))⟩
 exact⟨by rw[A0H];exact hz,_,r1.append r2,IsTupN.new _ _⟩
end
def ixN (n:Nat)(i:Int):Option Nat:=if 0<=i then(if i<n then some i.toNat else none) else if -(n:Int)<=i then some (i+n).toNat else none
def atI {α:Type}(xs:List α)(i:Int):Option α:=(ixN xs.length i).bind λj=>xs[j]?
theorem Yb {n:Nat}{i:Int}{j:Nat}(h:ixN n i=some j):seqIndex? i n=some j/\j<n /\ -(n:Int)<=i/\i<n:=by
 unfold ixN at h
 by_cases h0:0<=i
 . rw[A11 h0] at h
   by_cases h1:i<n
   . rw[A11 h1] at h
     have e:i.toNat=j:=A0R h
     exact⟨by rw[seqIndex_of h0 h1,e],by omega,by omega,h1⟩
   rw[A0Y h1] at h;cases h
 rw[A0Y h0] at h
 by_cases h1:-(n:Int)<=i
 . rw[A11 h1] at h
   have e:(i+n).toNat=j:=A0R h
   exact⟨by rw[seqIndex_neg (by omega) h1,e],by omega,h1,by omega⟩
 rw[A0Y h1] at h;cases h
theorem R1 {α:Type} {xs:List α} {i:Int} {v:α} (h:atI xs i=some v):∃ j,seqIndex? i xs.length=some j/\xs[j]? = some v/\j<xs.length /\ -(xs.length:Int)<=i/\i<xs.length:=by
 unfold atI at h
 cases e:ixN xs.length i with
 | none=>rw[e] at h;cases h
 | some j=>
   rw[e] at h
   obtain⟨h1,h2,h3,h4⟩:=Yb e
   exact⟨j,h1,h,h2,h3,h4⟩
theorem C5 {α:Type}{xs:List α}{j:Nat}{v:α}(h:xs[j]? = some v):atI xs (j:Int)=some v:=by
 have hj:j<xs.length:=(A03.mp h).1
 have e:ixN xs.length (j:Int)=some j:=by
  unfold ixN
  rw[if_pos (by omega),if_pos (by omega)];simp
 unfold atI;rw[e];exact h
def ao4 (b:Expr):Prop:=∀ o i,subscripted b false o i=operate [o,i] (getItem o i)
def IxR (X:Cx)(r:R2):Prop:=
 ∀(value slice:Expr) (pins:List (Addr×Obj)) (s:Shared) (σ:St) (H:Hp) (x y:V) (v u:Value) (Q:VK),Inv X pins σ H s->RelV x v->RelV y u->r x y H Q ->
  subscripted slice false v u=operate [v,u] (getItem v u)->wpAny (model X.prog X.w) X.A (subscriptTail value slice v u) (EP X pins σ Q) X.xe s
def MtR (X:Cx)(id:String)(r:V->List V->Hp->VK->Prop):Prop:=
 ∀(pins:List (Addr×Obj)) (s:Shared) (σ:St) (H:Hp) (x:V) (xs:List V) (v:Value) (us:List Value) (Q:VK),Inv X pins σ H s->RelV x v->Vals xs us->r x xs H Q ->
  wpAny (model X.prog X.w) X.A (call (.builtin id) (v :: us)) (EP X pins σ Q) X.xe s
section
variable {X:Cx}{a b:Expr}{ta tb:TE}{pos:Pos}
theorem IxR.or {r r':R2}(h:IxR X r)(h':IxR X r'):IxR X (λx y H Q=>r x y H Q\/r' x y H Q):=by
 intro value slice pins s σ H x y v u Q I rx ry q hs
 rcases q with q | q
 . exact h value slice pins s σ H x y v u Q I rx ry q hs
 exact h' value slice pins s σ H x y v u Q I rx ry q hs
theorem Af {r:R2}(hr:IxR X r)(ha:PE X a ta)(hb:PE X b tb)(hs:ao4 b):PE X (.Subscript a b pos) (tOp r ta tb):=by
 intro pins s σ H Q I h
 exact Subscript_ (aG2 ha hb I h λv u s2 x y H2 I2 rx ry q=>hr a b pins s2 σ H2 x y v u Q I2 rx ry q (hs _ _))
def aI2 (K:PySem.W.Frag):R2:=λx y H Q=>∃ p xs i v,x = .ref p/\y = .int i/\SqL K H p xs/\atI xs i=some v/\Q v H
def aJ4 (K:PySem.W.Frag):R2:=λx y H Q=>∃ p xs i v,x = .ref p/\y = .int i/\SqT K H p xs/\atI xs i=some v/\Q v H
def aI8:R2:=λx y H Q=>∃ z i c,x = .str z/\y = .int i/\z.length<=sizeLine/\atI z.cps.toList i=some c/\Q (.str ⟨#[c]⟩) H
theorem ix_list:IxR X (aI2 X.K):=by
 intro value slice pins s σ H x y v u Q I rx ry h hs
 obtain⟨p,xs,i,z,rfl,rfl,hq,he,q⟩:=h
 cases rx
 obtain⟨t,rfl⟩:=ry
 obtain⟨its,r,pl,hz⟩:=I.list hq
 obtain⟨j,h1,h2,h3,h4,h5⟩:=R1 he
 obtain⟨w,ew,rw'⟩:=r.get h2
 have hl:=r.length
 have hn:=Pz
 have fin:EP X pins σ Q w s:=⟨z,H,I,rw',q⟩
 by_cases h0:0<=i
 . have hj:i.toNat=j:=by
    rw[seqIndex_of h0 h5] at h1
    exact A0R h1
   exact item_listR pl.isList h0 (by omega) (by rw[hj];simpa using ew) fin hs
 have hj:(i+(its.toArray.size:Int)).toNat=j:=by
  rw[seqIndex_neg (by omega) h4] at h1
  rw[A0N,<- hl]
  exact A0R h1
 exact subscriptTail_builtinR (x:=w) pl.isList.typeIs slot_list_getitem.lookup
  (wpAny_getItem_list_neg (Q:=λr s'=>r=w/\EP X pins σ Q r s') pl.isList (by omega) (by rw[List.size_toArray]<;>omega) (by omega) (by rw[hj];simpa using ew) ⟨rfl,fin⟩) hs
theorem ix_tup:IxR X (aJ4 X.K):=by
 intro value slice pins s σ H x y v u Q I rx ry h hs
 obtain⟨p,xs,i,z,rfl,rfl,hq,he,q⟩:=h
 cases rx
 obtain⟨t,rfl⟩:=ry
 obtain⟨its,r,pl,hz⟩:=I.tuple hq
 obtain⟨j,h1,h2,h3,h4,h5⟩:=R1 he
 obtain⟨w,ew,rw'⟩:=r.get h2
 have hl:=r.length
 have hn:=Pz
 have fin:EP X pins σ Q w s:=⟨z,H,I,rw',q⟩
 exact subscriptTail_builtinR (x:=w) pl.typeIs slot_tuple_getitem.lookup
  (getItem_tuple (j:=j) (Q:=λr s'=>r=w/\EP X pins σ Q r s') pl (by omega) (by omega) (by rw[List.size_toArray,<- hl];exact h1) (by simpa using ew) ⟨rfl,fin⟩) hs
theorem as0:IxR X aI8:=by
 intro value slice pins s σ H x y v u Q I rx ry h hs
 obtain⟨z,i,c,rfl,rfl,hz,he,q⟩:=h
 obtain⟨t,rfl⟩:=rx
 obtain⟨t',rfl⟩:=ry
 obtain⟨j,h1,h2,h3,h4,h5⟩:=R1 he
 have hl:z.cps.toList.length=z.length:=by simp[Str.length]
 rw[hl] at h1 h4 h5
 have hn:=Pz
 exact tail_any (typeIs_str s z t) slot_str_getitem.lookup (getItem_str (c:=c) (by
  have e1:decide (i < -(2 ^ 63:Int))=false:=A0Q (by omega)
  have e2:decide (i>=2 ^ 63)=false:=A0Q (by omega)
  rw[e1,e2,Bool.or_false]) (by rw[h1];simpa using h2) ⟨.str ⟨#[c]⟩,H,I.tok _,⟨_,rfl⟩,q⟩) hs
def rIx (K:PySem.W.Frag):R2:=λx y H Q=>aI2 K x y H Q\/aJ4 K x y H Q\/aI8 x y H Q
theorem ix_seq:IxR X (rIx X.K):=ix_list.or (ix_tup.or as0)
theorem Xc (its:List Value)(n j:Nat)(u:Value):Obj.mapSeq (·.setIfInBounds j u) { cls:=.type "list",data:=.seq its.toArray n }={ cls:=.type "list",data:=.seq (its.set j u).toArray n }:=by
 simp[Obj.mapSeq]
theorem Inv.lst {pins:List (Addr×Obj)}{σ:St}{H:Hp}{s:Shared}{p:Addr}{xs:List V}(I:Inv X pins σ H s)(h:H p=some (.lst xs)) :
  ∃(its:List Value) (n:Nat),Vals xs its/\s.heap.get? p=some { cls:=.type "list",data:=.seq its.toArray n }/\xs.length<=sizeLine:=by
 obtain⟨z,its,n,r,e⟩:=I.hok p _ h
 exact⟨its,n,r,e,z⟩
theorem Inv.lstUpd {pins:List (Addr×Obj)}{σ:St}{H:Hp}{s:Shared}{p:Addr}{xs ys:List V}{its its':List Value}{n n':Nat}{f:Obj->Obj}(I:Inv X pins σ H s)(h:H p=some (.lst xs))
  (ho:s.heap.get? p=some { cls:=.type "list",data:=.seq its.toArray n }) (hf:f { cls:=.type "list",data:=.seq its.toArray n }={ cls:=.type "list",data:=.seq its'.toArray n' }) (r:Vals ys its') (hz:ys.length<=sizeLine) (t:Nat) :
  Inv X pins σ (upd H p (.lst ys)) { s with heap:=s.heap.update p f,toks:=t }:=by
 have e:(s.heap.update p f).get? p=some { cls:=.type "list",data:=.seq its'.toArray n' }:=by
  rw[A1X f ho (by rw[hf]<;>rfl),hf]
 refine I.write (x:=p) (e:=p) (by rw[h];trivial) (.inl rfl) (λb u hb q=>(A1E _ _ (Ne.symm hb)).trans q) ⟨_,e⟩ ?_
 exact⟨hz,its',n',r,e⟩
def at0:V->V->V->Hp->(Hp->Prop)->Prop:=λo i v H Q=>∃ p xs k j,o = .ref p/\i = .int k/\H p=some (.lst xs)/\ixN xs.length k=some j/\Q (upd H p (.lst (xs.set j v)))
theorem ad2:aG8 X at0:=by
 intro pins s σ H o i v ov iv u Q I ro ri rv h
 obtain⟨p,xs,k,j,rfl,rfl,hp,hj,q⟩:=h
 cases ro
 obtain⟨t,rfl⟩:=ri
 obtain⟨its,n,r,ho,hz⟩:=I.lst hp
 obtain⟨h1,h2,h3,h4⟩:=Yb hj
 have hl:=r.length
 have hn:=Pz
 have I':Inv X pins σ (upd H p (.lst (xs.set j v))) { s with heap:=s.heap.update p (Obj.mapSeq (·.setIfInBounds j u)) }:=
  I.lstUpd hp ho (Xc its n j u) (r.set rv j) (by rw[List.length_set];exact hz) s.toks
 by_cases h0:0<=k
 . have hk:k.toNat=j:=by
    rw[seqIndex_of h0 h4] at h1
    exact A0R h1
   exact PySem.W.ki_setAt ho h0 (by omega) (by rw[A0N,<- hl];exact h4) (by rw[hk];exact⟨_,I',q⟩)
 have hk:(k+(its.toArray.size:Int)).toNat=j:=by
  rw[seqIndex_neg (by omega) h3] at h1
  rw[A0N,<- hl]
  exact A0R h1
 exact PySem.W.ki_setBack ho (by omega) (by rw[A0N,<- hl];exact h3) (by omega) (by rw[hk];exact⟨_,I',q⟩)
theorem Tq (lo hi:Option Int) (n:Nat):(sliceBounds lo hi none n).1=((HT.sIx n 0 lo:Nat):Int)/\(sliceBounds lo hi none n).2.1=((HT.sIx n n hi:Nat):Int)/\(sliceBounds lo hi none n).2.2=1:=by
 refine⟨?_,?_,rfl⟩
 . cases lo with
   | none=>simp[sliceBounds,HT.sIx]
   | some i=>
     simp only[sliceBounds,HT.sIx,Option.getD_none,show(1:Int)>0 by decide,if_true]
     by_cases h:i<0
     . simp only[h,if_true]<;>omega
     simp only[h,if_false]<;>omega
 cases hi with
 | none=>simp[sliceBounds,HT.sIx]
 | some i=>
   simp only[sliceBounds,HT.sIx,Option.getD_none,show(1:Int)>0 by decide,if_true]
   by_cases h:i<0
   . simp only[h,if_true]<;>omega
   simp only[h,if_false]<;>omega
theorem Kl (its:List Value)(lo hi:Option Int):slicePick its.toArray lo hi none=((its.drop (HT.sIx its.length 0 lo)).take (HT.sIx its.length its.length hi-HT.sIx its.length 0 lo)).toArray:=by
 obtain⟨h1,h2,h3⟩:=Tq lo hi its.toArray.size
 unfold slicePick
 rw[h1,h2,h3]
 simp only[sliceRange_one,pick_run,List.size_toArray]<;>rfl
def aJ6 (K:PySem.W.Frag):V->Option Int->Option Int->Hp->VK->Prop:=λx lo hi H Q=>∃ a xs,x = .ref a/\SqL K H a xs/\∀ p,H p=none->Q (.ref p) (upd H p (.lst (Ut xs lo hi)))
theorem sl_list:SlR X (aJ6 X.K):=by
 intro pins s σ H x v vl vu lo hi sl Q I rx hs pl pu h
 obtain⟨a,xs,rfl,hx,q⟩:=h
 cases rx
 obtain⟨its,r,ht,hz⟩:=I.list hx
 have hlen:=r.length
 refine⟨"list",_,slot_list_getitem.lookup,ht.isList.typeIs,?_⟩
 refine wpAny_getItem_list_slice ht.isList hs pl pu .none nofun ?_ (by rw[A0N]<;>omega)
 rw[Kl,<- hlen]
 refine⟨.ref s.heap.objs.size,_,I.laid (t':=s.toks) (o:=.lst (Ut xs lo hi)) (λb ob q=>A02 _ q) (A07 _) ?_,rfl,q _ (I.hok.fresh (A07 _))⟩
 exact⟨A0L (Ng xs lo hi) hz,_,0,(r.drop (HT.sIx xs.length 0 lo)).take (HT.sIx xs.length xs.length hi-HT.sIx xs.length 0 lo),A0E _ rfl⟩
def Rg:V->Bool
 | .non=>true
 | .bl _=>true
 | .int _=>true
 | .str _=>true
 | _=>false
def eqV:V->V->Bool
 | .non,.non=>true
 | .bl a,.bl b=>a==b
 | .bl a,.int b=>(if a then 1 else 0)==b
 | .int a,.bl b=>a==(if b then 1 else 0)
 | .int a,.int b=>a==b
 | .str a,.str b=>a==b
 | _,_=>false
theorem au8 {A:Around}{s:Shared}{y x:V}{u v:Value}(ry:RelV y u)(rx:RelV x v)(fy:Rg y=true)(fx:Rg x=true):SeqAt.EqAt A s u v (eqV y x):=by
 cases y with
 | non=>
   cases ry
   cases x with
   | non=>cases rx;exact SeqAt.EqAt.same _
   | bl b=>cases rx;exact SeqAt.EqAt.none_bool b
   | int b=>obtain⟨t,rfl⟩:=rx;exact SeqAt.EqAt.none_int b t
   | str b=>obtain⟨t,rfl⟩:=rx;exact SeqAt.EqAt.none_str b t
   | _=>exact absurd (show false=true from fx) A0D
 | bl a=>
   cases ry
   cases x with
   | non=>cases rx;exact SeqAt.EqAt.bool_none a
   | bl b=>cases rx;exact SeqAt.EqAt.bool_bool a b
   | int b=>obtain⟨t,rfl⟩:=rx;exact SeqAt.EqAt.bool_int a b t
   | str b=>obtain⟨t,rfl⟩:=rx;exact SeqAt.EqAt.bool_str a b t
   | _=>exact absurd (show false=true from fx) A0D
 | int a=>
   obtain⟨t',rfl⟩:=ry
   cases x with
   | non=>cases rx;exact SeqAt.EqAt.int_none a t'
   | bl b=>cases rx;exact SeqAt.EqAt.int_bool a t' b
   | int b=>obtain⟨t,rfl⟩:=rx;exact SeqAt.EqAt.int_int a t' b t
   | str b=>obtain⟨t,rfl⟩:=rx;exact SeqAt.EqAt.int_str a t' b t
   | _=>exact absurd (show false=true from fx) A0D
 | str a=>
   obtain⟨t',rfl⟩:=ry
   cases x with
   | non=>cases rx;exact SeqAt.EqAt.str_none a t'
   | bl b=>cases rx;exact SeqAt.EqAt.str_bool a t' b
   | int b=>obtain⟨t,rfl⟩:=rx;exact SeqAt.EqAt.str_int a t' b t
   | str b=>obtain⟨t,rfl⟩:=rx;exact SeqAt.EqAt.str_str a t' b t
   | _=>exact absurd (show false=true from fx) A0D
 | _=>exact absurd (show false=true from fy) A0D
def eqU (x:V)(u:Value):Bool:=match u with
 | .none=>eqV .non x
 | .bool b=>eqV (.bl b) x
 | .int i _=>eqV (.int i) x
 | .str z _=>eqV (.str z) x
 | _=>false
theorem af5 {x y:V}{u:Value}(r:RelV y u)(f:Rg y=true):eqU x u=eqV y x:=by
 cases y with
 | non=>cases r;rfl
 | bl b=>cases r;rfl
 | int i=>obtain⟨t,rfl⟩:=r;rfl
 | str z=>obtain⟨t,rfl⟩:=r;rfl
 | _=>exact absurd (show false=true from f) A0D
theorem Mz {x:V}:∀ {xs:List V} {us:List Value},Vals xs us->xs.all Rg=true->us.any (eqU x)=xs.any λy=>eqV y x
 | _,_,.nil,_=>rfl
 | y :: xs,u :: us,.cons r t,f=>by
   rw[List.all_cons,A19] at f
   rw[A2O,A2O,af5 r f.1,Mz t f.2]
theorem Kp {A:Around}{s:Shared}{x:V}{v:Value}(rx:RelV x v)(fx:Rg x=true):∀ {xs:List V} {us:List Value},Vals xs us->xs.all Rg=true->∀ u∈us,SeqAt.EqAt A s u v (eqU x u)
 | _,_,.nil,_=>λu hu=>by cases hu
 | y :: xs,u :: us,.cons r t,f=>λu' hu=>by
   rw[List.all_cons,A19] at f
   rcases A0K.mp hu with rfl | hu
   . rw[af5 r f.1];exact au8 r rx f.1 fx
   exact Kp rx fx t f.2 u' hu
def inV (x:V)(xs:List V):Bool:=xs.any λy=>eqV y x
def rIn (K:PySem.W.Frag)(neg:Bool):R2:=λx y H Q=>∃ p xs,y = .ref p/\(SqL K H p xs\/SqT K H p xs)/\Rg x=true/\xs.all Rg=true/\Q (.bl (if neg then !inV x xs else inV x xs)) H
theorem op_in_seq:OpR X (compareOp .In) (rIn X.K false):=by
 intro pins s σ H x y v u Q I rx ry h
 obtain⟨p,xs,rfl,hq,fx,fs,q⟩:=h
 cases ry
 rcases hq with hq | hq
 . obtain⟨its,r,pl,hz⟩:=I.list hq
   refine SeqAt.in_listAt (eqU x) pl.isList (λw hw=>Kp rx fx r fs w (by simpa using hw)) ⟨.bl _,H,I,rfl,?_⟩
   rw[show its.toArray.any (eqU x)=its.any (eqU x) by simp,Mz r fs]
   exact q
 obtain⟨its,r,pl,hz⟩:=I.tuple hq
 refine SeqAt.in_tupleAt (eqU x) pl (λw hw=>Kp rx fx r fs w (by simpa using hw)) ⟨.bl _,H,I,rfl,?_⟩
 rw[show its.toArray.any (eqU x)=its.any (eqU x) by simp,Mz r fs]
 exact q
theorem op_notIn_seq:OpR X (compareOp .NotIn) (rIn X.K true):=by
 intro pins s σ H x y v u Q I rx ry h
 obtain⟨p,xs,rfl,hq,fx,fs,q⟩:=h
 cases ry
 rcases hq with hq | hq
 . obtain⟨its,r,pl,hz⟩:=I.list hq
   refine SeqAt.notIn_listAt (eqU x) pl.isList (λw hw=>Kp rx fx r fs w (by simpa using hw)) ⟨.bl _,H,I,rfl,?_⟩
   rw[show its.toArray.any (eqU x)=its.any (eqU x) by simp,Mz r fs]
   exact q
 obtain⟨its,r,pl,hz⟩:=I.tuple hq
 refine SeqAt.notIn_tupleAt (eqU x) pl (λw hw=>Kp rx fx r fs w (by simpa using hw)) ⟨.bl _,H,I,rfl,?_⟩
 rw[show its.toArray.any (eqU x)=its.any (eqU x) by simp,Mz r fs]
 exact q
theorem op_notIn_str:OpR X (compareOp .NotIn) (λx y H Q=>∃ i j,x = .str i/\y = .str j/\Q (.bl (!(!(Builtin.Str.occurrences j i 0 j.length 1).isEmpty))) H):=by
 intro pins s σ H x y v u Q I rx ry h
 obtain⟨i,j,rfl,rfl,q⟩:=h
 obtain⟨t,rfl⟩:=rx
 obtain⟨t',rfl⟩:=ry
 exact notIn_str ⟨.bl _,H,I,rfl,q⟩
theorem CallR.or {f:Value}{r r':List V->Hp->VK->Prop}(h:CallR X f r)(h':CallR X f r'):CallR X f (λxs H Q=>r xs H Q\/r' xs H Q):=by
 intro pins s σ H xs us Q I rs q
 rcases q with q | q
 . exact h pins s σ H xs us Q I rs q
 exact h' pins s σ H xs us Q I rs q
theorem Rv:CallR X (.type "list") (λxs H Q=>∃ p ys,xs=[.ref p]/\(SqL X.K H p ys\/SqT X.K H p ys)/\∀ l,H l=none->Q (.ref l) (upd H l (.lst ys))):=by
 intro pins s σ H xs us Q I r h
 obtain⟨p,ys,rfl,hq,q⟩:=h
 obtain⟨u,rfl,rx⟩:=Km r
 cases rx
 have fin:∀(its:List Value),Vals ys its->ys.length<=sizeLine->∀(h':Heap) (c':Nat),(∀ b o',s.heap.get? b=some o'->h'.get? b=some o') ->
   h'.get? s.heap.objs.size=some { cls:=.type "list",dict:=none,data:=.seq its.toArray c',slots:=#[] }->EP X pins σ Q (.ref s.heap.objs.size) { s with heap:=h' }:=λits r' hz h' c' kp e=>
  ⟨.ref s.heap.objs.size,_,I.laid (t':=s.toks) kp (A07 _) (show ObjOk X.prog X.w _ h' _ (.lst ys) from⟨hz,its,c',r',e⟩),rfl,q _ (I.hok.fresh (A07 _))⟩
 rcases hq with hq | hq
 . obtain⟨its,r',pl,hz⟩:=I.list hq
   have hlen:=r'.length
   obtain⟨o,ho,hc,n,hd⟩:=pl.isList
   exact call_list_seq p (.inl rfl) ho hc hd (λh' c' kp e=>fin its r' hz h' c' kp e) (by simp only[List.size_toArray]<;>omega)
 obtain⟨its,r',pl,hz⟩:=I.tuple hq
 have hlen:=r'.length
 obtain⟨o,ho,hc,n,hd⟩:=pl
 exact call_list_seq p (.inr rfl) ho hc hd (λh' c' kp e=>fin its r' hz h' c' kp e) (by simp only[List.size_toArray]<;>omega)
theorem Rf:CallR X (.type "tuple") (λxs H Q=>∃ p ys,xs=[.ref p]/\((SqL X.K H p ys/\∀ l,H l=none->Q (.ref l) (upd H l (.tup ys)))\/(SqT X.K H p ys/\Q (.ref p) H))):=by
 intro pins s σ H xs us Q I r h
 obtain⟨p,ys,rfl,h⟩:=h
 obtain⟨u,rfl,rx⟩:=Km r
 cases rx
 rcases h with ⟨hq,q⟩ | ⟨hq,q⟩
 . obtain⟨its,r',pl,hz⟩:=I.list hq
   have hlen:=r'.length
   refine call_tuple_list pl.isList (λh' kp=>?_) (by simp only[List.size_toArray]<;>omega)
   have I1:Inv X pins σ H { s with heap:=h' }:=I.kept (t':=s.toks) kp
   have I2:Inv X pins σ (upd H h'.objs.size (.tup ys)) { s with heap:=h'.push { cls:=.type "tuple",data:=.seq its.toArray } }:=
    I1.laid (t':=s.toks) (λb o e=>A02 _ e) (A07 _) (show ObjOk X.prog X.w _ _ _ (.tup ys) from⟨hz,its,r',IsTupN.new _ _⟩)
   exact⟨.ref h'.objs.size,_,I2,rfl,q _ (I1.hok.fresh (A07 _))⟩
 obtain⟨its,r',pl,hz⟩:=I.tuple hq
 exact call_tuple_same pl ⟨.ref p,H,I,rfl,q⟩
def tyV (K:PySem.W.Frag)(T:String)(x:V)(H:Hp):Prop:=match x with
 | .str _=>T = "str"
 | .int _=>T = "int"
 | .ref p=>(T = "list" /\ ∃ xs,SqL K H p xs)\/(T = "tuple" /\ ∃ o,K.lookup p=some o/\o.cls = .type "tuple" /\ o.dict=none) \/
   (T = "dict" /\ ((∃ kvs,H p=some (.dK kvs))\/∃ kvs,H p=some (.dT kvs)))\/(T = "set" /\ ∃ S n,H p=some (.set S n))
 | _=>False
theorem ah0 {pins:List (Addr×Obj)}{σ:St}{H:Hp}{s:Shared}{T:String}{x:V}{v:Value}(I:Inv X pins σ H s)(r:RelV x v)(ty:tyV X.K T x H) :
  s.TypeIs v T/\∀ a,v = .ref a->∃ ob,s.heap.get? a=some ob/\ob.dict=none:=by
 cases x with
 | str z=>
   obtain⟨t,rfl⟩:=r
   cases (show T = "str" from ty)
   exact⟨typeIs_str s z t,λ_ e=>nomatch e⟩
 | int i=>
   obtain⟨t,rfl⟩:=r
   cases (show T = "int" from ty)
   exact⟨typeIs_int s i t,λ_ e=>nomatch e⟩
 | ref p=>
   cases r
   rcases ty with ⟨rfl,xs,hq⟩ | ⟨rfl,o,hk,hc,hd⟩ | ⟨rfl,hk⟩ | ⟨rfl,S,n,hk⟩
   . obtain⟨its,_,pl,_⟩:=I.list hq
     refine⟨pl.isList.typeIs,λa e=>?_⟩
     cases e
     obtain⟨o,n,e,c,hd,_⟩:=pl
     exact⟨o,e,hd⟩
   . refine⟨⟨o,I.kIn p o hk,hc⟩,λa e=>?_⟩
     cases e
     exact⟨o,I.kIn _ o hk,hd⟩
   . have z:∃ o,s.heap.get? p=some o/\o.ExactDict:=by
      rcases hk with ⟨kvs,hk⟩ | ⟨kvs,hk⟩
      . obtain⟨_,_,_,_,o,_,_,e,ex,_⟩:=I.hok p _ hk
        exact⟨o,e,ex⟩
      obtain⟨_,_,_,_,o,_,_,e,ex,_⟩:=I.hok p _ hk
      exact⟨o,e,ex⟩
     obtain⟨o,e,ex⟩:=z
     refine⟨⟨o,e,ex.1⟩,λa e2=>?_⟩
     cases e2
     exact⟨o,e,ex.2.1⟩
   obtain⟨o,_,_,_,e,ex,_⟩:=I.hok p _ hk
   refine⟨⟨o,e,ex.1⟩,λa e2=>?_⟩
   cases e2
   exact⟨o,e,ex.2.1⟩
 | _=>exact False.elim ty
def aE5 (K:PySem.W.Frag)(T:String)(r:V->List V->Hp->VK->Prop)(to:TE):TE:=fun σ H Q=>to σ H λx H1=>tyV K T x H1/\r x [] H1 Q
def tBM (K:PySem.W.Frag)(T:String)(r:V->List V->Hp->VK->Prop)(to:TE)(t:TA):TE:=fun σ H Q=>to σ H λx H1=>tyV K T x H1/\t σ H1 λxs H2=>r x xs H2 Q
variable {o e:Expr}{es:List Expr}{to:TE}{t:TA}{name:Str}{apos cpos:Pos}{T id:String}{r:V->List V->Hp->VK->Prop}
theorem as9 (pa:PlainAttrs T)(slot:Slot T name id)(hty:typeOf (.builtin id)=pure (.type "method_descriptor"))(hm:MtR X id r)(ho:PE X o to)
  (hbase:attributeBase o name X.env (eval o X.env)=eval o X.env:=by ac_nf) (hline:(apos.endLine==cpos.line)=true:=by ac_nf):PE X (.Call (.Attribute o name apos) [] [] cpos) (aE5 X.K T r to):=by
 intro pins s σ H Q I h
 refine wpAny_Call_method0_late hbase hline (thn (ho pins s σ H _ I h) λv s1 ⟨x,H1,I1,r1,ty,q1⟩=>?_)
 obtain⟨h1,h2⟩:=ah0 I1 r1 ty
 exact⟨T,id,pa,slot,hty,h1,h2,A2C rfl (PySem.evalArgs_none (hm pins s1 σ H1 x [] v [] Q I1 r1 .nil q1))⟩
theorem aE7 (pa:PlainAttrs T)(slot:Slot T name id)(hty:typeOf (.builtin id)=pure (.type "method_descriptor"))(hm:MtR X id r)(ho:PE X o to)(ha:PA X (e :: es) t)
  (hbase:attributeBase o name X.env (eval o X.env)=eval o X.env:=by ac_nf)
  (hfew:((backTo cpos (starEach (e :: es) X.env)).all (λx=>!x.1)&&(backToKw cpos (keywordEach [] X.env)).all (λx=>x.1.isSome)
   && decide ((e :: es).length+([]:List Keyword).length+(if([]:List Keyword).isEmpty then 0 else 1)<30))=true:=by ac_nf)
  (hline:(apos.endLine==cpos.line)=true:=by ac_nf) (hs:starEach (e :: es) X.env=(false,eval e X.env) :: starEach es X.env:=by ac_nf) (hplain:(backTo cpos (starEach es X.env)).any (·.1)=false:=by ac_nf) :
  PE X (.Call (.Attribute o name apos) (e :: es) [] cpos) (tBM X.K T r to t):=by
 intro pins s σ H Q I h
 refine wpAny_Call_method_late hbase hfew hline rfl (thn (ho pins s σ H _ I h) λv s1 ⟨x,H1,I1,r1,ty,q1⟩=>?_)
 obtain⟨h1,h2⟩:=ah0 I1 r1 ty
 refine⟨T,id,pa,slot,hty,h1,h2,?_⟩
 have hA:=ha cpos pins s1 σ H1 _ I1 q1
 rw[hs] at hA ⊢
 refine A2C (by show(false||(backTo cpos (starEach es X.env)).any (·.1))=false;rw[hplain]<;>rfl) (A3D ?_)
 exact thn hA λus s2 ⟨vs,H2,I2,r2,q2⟩=>hm pins s2 σ H2 x vs v us Q I2 r1 r2 q2
/- xs.append(e),list.index on a module's tuple .. are MtR facts of 06m -/
end
def MtM (X:Cx)(id:String)(r:V->List V->Hp->VK->Prop):Prop:=
 ∀(pins:List (Addr×Obj)) (s:Shared) (σ:St) (H:Hp) (x:V) (xs:List V) (v:Value) (us:List Value) (Q:VK),Inv X pins σ H s->RelV x v->Vals xs us->r x xs H Q ->
  wpAny (model X.prog X.w) X.A (call (.builtin id) (v :: us)) (EP X pins σ Q) X.xe s
theorem Vals.one {x:V}{us:List Value}(h:Vals [x] us):∃ u,us=[u]/\RelV x u:=by
 cases h with
 | cons r q=>cases q;exact⟨_,rfl,r⟩
theorem Vals.two {x y:V}{us:List Value}(h:Vals [x,y] us):∃ u v,us=[u,v]/\RelV x u/\RelV y v:=by
 cases h with
 | cons r q=>obtain⟨u,rfl,q'⟩:=Vals.one q;exact⟨_,_,rfl,r,q'⟩
theorem Vals.zero:∀ {us:List Value},Vals [] us->us=[]
 | _,.nil=>rfl
theorem Vals.dropLast {xs:List V}{us:List Value}(h:Vals xs us):Vals xs.dropLast us.dropLast:=by
 induction h with
 | nil=>exact .nil
 | cons r t ih=>
   cases t with
   | nil=>exact .nil
   | cons q t'=>exact .cons r ih
theorem Vals.eraseIdx:∀ {xs:List V} {us:List Value} (i:Nat),Vals xs us->Vals (xs.eraseIdx i) (us.eraseIdx i)
 | _,_,_,.nil=>.nil
 | _,_,0,.cons _ t=>t
 | _,_,i+1,.cons r t=>.cons r (Vals.eraseIdx i t)
theorem Vals.reverse {xs:List V}{us:List Value}(h:Vals xs us):Vals xs.reverse us.reverse:=by
 induction h with
 | nil=>exact .nil
 | cons r t ih=>rw[List.reverse_cons,List.reverse_cons];exact Vals.append ih (.cons r .nil)
theorem Vals.rep {xs:List V}{us:List Value}(h:Vals xs us):∀ k:Nat,Vals (List.replicate k xs).flatten (List.replicate k us).flatten
 | 0=>.nil
 | k+1=>by
   rw[A29,A29,A3U,A3U]
   exact Vals.append h (Vals.rep h k)
theorem X3 {α:Type}(l:List α):l.eraseIdx (l.length-1)=l.dropLast:=by
 induction l with
 | nil=>rfl
 | cons a r ih=>
   cases r with
   | nil=>rfl
   | cons b r=>
     have e:(a :: b :: r).length-1=((b :: r).length-1)+1:=by
      have h1:(a :: b :: r).length=r.length+2:=rfl
      have h2:(b :: r).length=r.length+1:=rfl
      omega
     rw[e,List.eraseIdx_cons_succ,ih]
     all_goals rfl
theorem T8 {α:Type}:∀(l:List α) (i:Nat),(l.eraseIdx i).length<=l.length
 | [],_=>A07 _
 | _ :: _,0=>A20 _
 | _ :: r,i+1=>Nat.succ_le_succ (T8 r i)
theorem Rw (its:List Value):∀(k:Nat) (acc:List Value),
  List.foldl (λx1 x2=>x1++x2) acc.toArray (List.replicate k its.toArray)=(acc++(List.replicate k its).flatten).toArray
 | 0,acc=>by simp
 | k+1,acc=>by
   have e:acc.toArray++its.toArray=(acc++its).toArray:=by simp
   have e2:(acc++its)++(List.replicate k its).flatten=acc++(List.replicate (k+1) its).flatten:=by
    rw[A29,A3U,List.append_assoc]
   rw[<- e2,<- Rw its k (acc++its),<- e,A29,A4A]
section
variable {X:Cx}{pins:List (Addr×Obj)}{σ:St}{H:Hp}{s:Shared}{l b:Addr}{xs ys zs:List V}
theorem Inv.lset {its its':List Value}{n:Nat}{f:Array Value->Array Value}{t':Nat}(I:Inv X pins σ H s)(hH:H l=some (.lst xs))
  (e:s.heap.get? l=some { cls:=.type "list",data:=.seq its.toArray n }) (hf:f its.toArray=its'.toArray) (hv:Vals ys its') (hz:ys.length<=sizeLine) :
  Inv X pins σ (upd H l (.lst ys)) { s with heap:=s.heap.update l (Obj.mapSeq f),toks:=t' }:=by
 have q:=PySem.IsL.update e f
 rw[hf] at q
 refine I.write (x:=l) (e:=l) (by rw[hH];exact trivial) (.inl rfl) (λb' u hb hu=>(A1E s.heap (Obj.mapSeq f) (Ne.symm hb)).trans hu) ⟨_,q⟩ ?_
 exact⟨hz,its',_,hv,q⟩
theorem Inv.lnew {its:List Value}{t':Nat}(I:Inv X pins σ H s)(hv:Vals ys its)(hz:ys.length<=sizeLine) :
  Inv X pins σ (upd H s.heap.objs.size (.lst ys)) { s with heap:=s.heap.push { cls:=.type "list",data:=.seq its.toArray },toks:=t' }:=
 I.laid (λ_ _ q=>A02 _ q) (A07 _) ⟨hz,its,0,hv,A0E _ rfl⟩
theorem Inv.fresh (I:Inv X pins σ H s):H s.heap.objs.size=none:=I.hok.fresh (A07 _)
theorem Inv.lstM (I:Inv X pins σ H s)(hH:H l=some (.lst xs)):xs.length<=sizeLine/\∃(its:List Value) (n:Nat),Vals xs its/\xs.length=its.length/\s.heap.get? l=some { cls:=.type "list",data:=.seq its.toArray n }:=by
 obtain⟨z,its,n,r,e⟩:=I.hok l _ hH
 exact⟨z,its,n,r,r.length,e⟩
theorem ab0 {n:Nat}(h:n<=sizeLine):Builtin.List.listTooLong n=false:=by
 unfold Builtin.List.listTooLong
 exact A0Q (by omega)
end
section
variable {X:Cx}
def Z9:V->List V->Hp->VK->Prop:=λx vs H Q=>∃ l xs y,x = .ref l/\vs=[y]/\H l=some (.lst xs)/\xs.length<sizeLine/\Q .non (upd H l (.lst (xs++[y])))
theorem Bg:MtM X "list.append" Z9:=by
 intro pins s σ H x vs v us Q I rx rv h
 obtain⟨l,xs,y,rfl,rfl,hH,hz,q⟩:=h
 cases rx
 obtain⟨u,rfl,ru⟩:=rv.one
 obtain⟨z,its,n,r,hl,e⟩:=I.lstM hH
 refine A3V F.slot_list_append ⟨_,e,rfl⟩ F.entry_list_append (F.args_list_append_2 _ _) (PySem.list_append l its.toArray n u (by rw[A0N];omega)) ⟨e,?_⟩
 refine⟨.non,_,I.lset (its':=its++[u]) hH e nofun (r.append (.cons ru .nil)) ?_,rfl,q⟩
 rw[A0H,A18]
 omega
def aH8:V->List V->Hp->VK->Prop:=λx vs H Q=>∃ l xs y,x = .ref l/\vs=[]/\H l=some (.lst xs)/\xs[xs.length-1]? = some y/\Q y (upd H l (.lst xs.dropLast))
theorem Wa:MtM X "list.pop" aH8:=by
 intro pins s σ H x vs v us Q I rx rv h
 obtain⟨l,xs,y,rfl,rfl,hH,hy,q⟩:=h
 cases rx
 have hus:=rv.zero
 subst hus
 obtain⟨z,its,n,r,hl,e⟩:=I.lstM hH
 obtain⟨u,hu,ru⟩:=r.get hy
 have hy':its.toArray[its.toArray.size-1]? = some u:=by
  show its.toArray[its.length-1]? = some u
  rw[<- A39,<- hl]
  exact hu
 refine A3V F.slot_list_pop ⟨_,e,rfl⟩ F.entry_list_pop (F.args_list_pop_1 _) (MeetsSeq.list_pop_last l its.toArray n u hy' (by rw[A0N];omega)) ⟨e,?_⟩
 refine⟨y,_,I.lset (its':=its.dropLast) hH e ?_ r.dropLast ?_,ru,q⟩
 . show its.toArray.eraseIdxIfInBounds (its.toArray.size-1)=its.dropLast.toArray
   rw[A0N,List.eraseIdxIfInBounds_toArray,X3]
 rw[List.length_dropLast]
 omega
def ag2:V->List V->Hp->VK->Prop:=λx vs H Q=>∃ l xs i k y,x = .ref l/\vs=[.int i]/\H l=some (.lst xs) /\ -(2 ^ 63)<=i/\i<2 ^ 63/\seqIndex? i xs.length=some k/\xs[k]? = some y/\Q y (upd H l (.lst (xs.eraseIdx k)))
theorem a97:MtM X "list.pop" ag2:=by
 intro pins s σ H x vs v us Q I rx rv h
 obtain⟨l,xs,i,k,y,rfl,rfl,hH,h1,h2,hk,hy,q⟩:=h
 cases rx
 obtain⟨u,rfl,ru⟩:=rv.one
 obtain⟨t,rfl⟩:=ru
 obtain⟨z,its,n,r,hl,e⟩:=I.lstM hH
 obtain⟨w,hw,rw'⟩:=r.get hy
 refine A3V F.slot_list_pop ⟨_,e,rfl⟩ F.entry_list_pop (F.args_list_pop_2 _ _)
  (MeetsSeq.list_pop_at l its.toArray n i t k w (fitsIndex_both h1 h2) (by rw[A0N,<- hl];exact hk) (by rw[<- A39];exact hw) (by rw[A0N];omega)) ⟨e,?_⟩
 refine⟨y,_,I.lset (its':=its.eraseIdx k) hH e ?_ (r.eraseIdx k) ?_,rw',q⟩
 . show its.toArray.eraseIdxIfInBounds k=(its.eraseIdx k).toArray
   rw[List.eraseIdxIfInBounds_toArray]
 have:=T8 xs k
 omega
def ae3:V->List V->Hp->VK->Prop:=λx vs H Q=>∃ l xs,x = .ref l/\vs=[]/\H l=some (.lst xs)/\Q .non (upd H l (.lst []))
theorem a99:MtM X "list.clear" ae3:=by
 intro pins s σ H x vs v us Q I rx rv h
 obtain⟨l,xs,rfl,rfl,hH,q⟩:=h
 cases rx
 have hus:=rv.zero
 subst hus
 obtain⟨z,its,n,r,hl,e⟩:=I.lstM hH
 refine A3V F.slot_list_clear ⟨_,e,rfl⟩ F.entry_list_clear (F.args_list_clear_1 _) (AutoSeq1.list_clear_list_0 l its.toArray n (by rw[A0N];omega)) ⟨e,?_⟩
 exact⟨.non,_,I.lset (its':=[]) (ys:=[]) hH e rfl .nil (A3J _),rfl,q⟩
def aI7:R2:=λx y H Q=>∃ l b xs zs,x = .ref l/\y = .ref b/\H l=some (.lst xs)/\H b=some (.lst zs)/\xs.length+zs.length<=sizeLine/\∀ p,H p=none->Q (.ref p) (upd H p (.lst (xs++zs)))
theorem op_cat:OpR X (binaryOp .Add) aI7:=by
 intro pins s σ H x y v u Q I rx ry h
 obtain⟨l,b,xs,zs,rfl,rfl,hH,hB,hz,q⟩:=h
 cases rx
 cases ry
 obtain⟨z,its,n,r,hl,e⟩:=I.lstM hH
 obtain⟨z2,its2,n2,r2,hl2,e2⟩:=I.lstM hB
 refine PySem.P.add_list e e2 ?_ (by rw[A0N,A0N];omega)
 have ea:its.toArray++its2.toArray=(its++its2).toArray:=by simp
 rw[ea]
 exact⟨.ref _,_,I.lnew (t':=s.toks) (r.append r2) (by rw[A0H];omega),rfl,q _ I.fresh⟩
def aI1:R2:=λx y H Q=>∃ l k xs,x = .ref l/\y = .int k/\H l=some (.lst xs) /\ -(2 ^ 63)<=k/\k<2 ^ 63/\xs.length*k.toNat<=sizeLine /\
 ∀ p,H p=none->Q (.ref p) (upd H p (.lst (List.replicate k.toNat xs).flatten))
theorem an0 {α:Type}(xs:List α)(k:Nat):(List.replicate k xs).flatten.length=k*xs.length:=by
 induction k with
 | zero=>simp
 | succ k ih=>rw[A29,A3U,A0H,ih,Nat.succ_mul,Nat.add_comm]
theorem au4:OpR X (binaryOp .Mult) aI1:=by
 intro pins s σ H x y v u Q I rx ry h
 obtain⟨l,k,xs,rfl,rfl,hH,h1,h2,hz,q⟩:=h
 cases rx
 obtain⟨t,rfl⟩:=ry
 obtain⟨z,its,n,r,hl,e⟩:=I.lstM hH
 have hlen:its.toArray.size*k.toNat<=sizeLine:=by rw[A0N,<- hl];exact hz
 have hcap:¬ its.toArray.size*k.toNat>(2 ^ 63-1) / 8:=by
  have:(sizeLine:Nat)<=(2 ^ 63-1) / 8:=by decide
  omega
 have hfit:¬ (!Builtin.List.listFitsIndex k)=true:=by
  rw[fitsIndex_both h1 h2]
  exact A0D
 have hlong:¬ Builtin.List.listTooLong (its.toArray.size*k.toNat)=true:=by
  rw[ab0 hlen]
  exact A0D
 have hnew:List.foldl (λx1 x2=>x1++x2) #[] (List.replicate (if its.toArray.isEmpty=true then 0 else k.toNat) its.toArray)=(List.replicate k.toNat its).flatten.toArray:=by
  have f0:∀ m:Nat,List.foldl (λx1 x2=>x1++x2) #[] (List.replicate m its.toArray)=(List.replicate m its).flatten.toArray:=λm=>by
   have:=Rw its m []
   rw[List.nil_append] at this
   exact this
  rw[f0]
  cases its with
  | nil=>simp
  | cons a r'=>rw[A0Y nofun]
 refine wpAny_binaryOp_repeat_ref (T:="list") (U:="int") ∅ ⟨_,e,rfl⟩ (λs'=>typeIs_int s' k t) noFill_list_mul F.fills_int_mul F.slot_int_rmul repeat_list F.slot_int_index.lookup
  (A3V F.slot_int_rmul (typeIs_int s k t) F.entry_int_rmul (F.args_int_rmul_2 _ _) (int___rmul___int_list k t l its.toArray n)
   ⟨e,rfl,⟨_,e,rfl⟩,A3V F.slot_list_mul ⟨_,e,rfl⟩ F.entry_list_mul (F.args_list_mul_2 _ _) (AutoListH.list___mul___list_int_3 l its.toArray n k t hfit hcap hlong) ⟨e,?_⟩⟩)
 rw[hnew]
 exact⟨.ref _,_,I.lnew (t':=s.toks) (r.rep k.toNat) (by rw[an0,Nat.mul_comm];exact hz),rfl,q _ I.fresh⟩
end
section
variable {prog:Program}{w:World}{A:Around}{E:Value->Shared->Prop}{s:Shared}
set_option maxRecDepth 100000 in
end
section
variable {X:Cx}
end
section
variable {κ:Type}[DecidableEq κ]
def Dj (kvs:List (κ×V))(k:κ):Option V:=(kvs.find? λkv=>decide (kv.1=k)).map (·.2)
def Hl (kvs:List (κ×V))(k:κ)(v:V):List (κ×V):=
 if(kvs.any λkv=>decide (kv.1=k))=true then kvs.map (λkv=>if kv.1=k then(kv.1,v) else kv) else kvs++[(k,v)]
def Ei (kvs:List (κ×V))(k:κ):List (κ×V):=kvs.filter λkv=>decide (kv.1≠k)
theorem ab6 {k:κ}:Dj ([]:List (κ×V)) k=none:=rfl
theorem Bj {p:κ×V} {r:List (κ×V)} {k:κ} (e:p.1=k):Dj (p :: r) k=some p.2:=by simp[Dj,List.find?_cons,e]
theorem B9 {p:κ×V}{r:List (κ×V)}{k:κ}(e:¬ p.1=k):Dj (p :: r) k=Dj r k:=by simp[Dj,List.find?_cons,e]
theorem Gm (k:κ):∀ kvs:List (κ×V),(kvs.any λkv=>decide (kv.1=k))=(Dj kvs k).isSome
 | []=>rfl
 | p :: r=>by
   rw[A2O]
   by_cases e:p.1=k
   . simp only[Bj e,decide_eq_true e,Bool.true_or,Option.isSome_some]
   rw[B9 e,A0Q e,A4S];exact Gm k r
theorem Wm (k j:κ)(y:V):∀ kvs:List (κ×V),Dj (kvs.map λkv=>if kv.1=k then(kv.1,y) else kv) j=(Dj kvs j).map λx=>if j=k then y else x
 | []=>rfl
 | p :: r=>by
   have ih:=Wm k j y r
   rw[A0X]
   by_cases h:p.1=k
   . rw[A11 h]
     by_cases e:p.1=j
     . rw[Bj (p:=(p.1,y)) e,Bj e,A4B,A11 (e.symm.trans h)]
     rw[B9 (p:=(p.1,y)) e,B9 e,ih]
   rw[A0Y h]
   by_cases e:p.1=j
   . rw[Bj (p:=p) e,Bj e,A4B,A0Y (λz=>h (e.trans z))]
   rw[B9 (p:=p) e,B9 e,ih]
theorem Tx (k j:κ)(y:V):∀ kvs:List (κ×V),Dj kvs k=none->Dj (kvs++[(k,y)]) j=if j=k then some y else Dj kvs j
 | [],_=>by
   by_cases e:k=j
   . rw[A11 e.symm];exact Bj (p:=(k,y)) e
   rw[A0Y (λz=>e z.symm)];exact B9 (p:=(k,y)) e
 | p :: r,hn=>by
   rw[List.cons_append]
   have hk:¬ p.1=k:=λz=>by rw[Bj z] at hn;cases hn
   rw[B9 hk] at hn
   have ih:=Tx k j y r hn
   by_cases e:p.1=j
   . rw[Bj e,Bj e,A0Y (λz=>hk (e.trans z))]
   rw[B9 e,B9 e,ih]
theorem Mc (kvs:List (κ×V))(k j:κ)(y:V):Dj (Hl kvs k y) j=if j=k then some y else Dj kvs j:=by
 unfold Hl
 by_cases a:(kvs.any λkv=>decide (kv.1=k))=true
 . rw[A11 a,Wm]
   rw[Gm] at a
   by_cases e:j=k
   . obtain⟨x,hx⟩:=Option.isSome_iff_exists.mp a
     rw[A11 e,e,hx,A4B,A11 rfl]
   rw[A0Y e]
   cases Dj kvs j with
   | none=>rfl
   | some x=>rw[A4B,A0Y e]
 rw[A0Y a]
 refine Tx k j y kvs ?_
 rw[Gm] at a
 cases q:Dj kvs k with
 | none=>rfl
 | some x=>rw[q] at a;exact(a rfl).elim
theorem K3 (kvs:List (κ×V))(k:κ)(v:V):(Hl kvs k v).length<=kvs.length+1:=by
 unfold Hl
 split
 . rw[A00];omega
 rw[A0H,A0Z,List.length_nil];omega
theorem Kh {kvs:List (κ×V)}{k:κ}(v:V)(h:Dj kvs k=none):Hl kvs k v=kvs++[(k,v)]:=by
 unfold Hl
 rw [Gm,h]
 exact A0Y ∅
theorem RelO.isSome_eq {o:Option V}{u:Option Value}(r:RelO o u):o.isSome=u.isSome:=by
 cases o with
 | none=>cases u with
   | none=>rfl
   | some _=>exact(show False from r).elim
 | some _=>cases u with
   | none=>exact(show False from r).elim
   | some _=>rfl
theorem RelO.getD {o:Option V}{u:Option Value}{d:V}{d':Value}(r:RelO o u)(rd:RelV d d'):RelV (o.getD d) (u.getD d'):=by
 cases o with
 | none=>cases u with
   | none=>exact rd
   | some _=>exact(show False from r).elim
 | some _=>cases u with
   | none=>exact(show False from r).elim
   | some _=>exact r
theorem KV.val {kvs:List (κ×V)} {vs:List (κ×Value)} (r:KV kvs vs) (k:κ):RelO (Dj kvs k) (valueAt vs k):=by
 unfold KV at r
 induction r with
 | nil=>exact A1G
 | @cons p q ps qs h t ih=>
   obtain⟨h1,h2⟩:=h
   by_cases e:p.1=k
   . have e':q.1=k:=h1.symm.trans e
     have b:valueAt (q :: qs) k=some q.2:=by simp[valueAt,List.find?_cons,e']
     rw[Bj e,b];exact h2
   have e':¬ q.1=k:=λz=>e (h1.trans z)
   have b:valueAt (q :: qs) k=valueAt qs k:=by simp[valueAt,List.find?_cons,e']
   rw[B9 e,b];exact ih
theorem KV.any {kvs:List (κ×V)}{vs:List (κ×Value)}(r:KV kvs vs)(k:κ):(kvs.any λkv=>decide (kv.1=k))=vs.any λkv=>decide (kv.1=k):=by
 unfold KV at r
 induction r with
 | nil=>rfl
 | cons h t ih=>rw[A2O,A2O,ih,h.1]
theorem KV.repl {kvs:List (κ×V)}{vs:List (κ×Value)}(r:KV kvs vs)(k:κ){y:V}{u:Value}(ry:RelV y u) :
  KV (kvs.map λkv=>if kv.1=k then(kv.1,y) else kv) (vs.map λkv=>if kv.1=k then(kv.1,u) else kv):=by
 unfold KV at r ⊢
 induction r with
 | nil=>exact .nil
 | @cons p q ps qs h t ih=>
   rw[A0X,A0X]
   refine .cons ?_ ih
   obtain⟨h1,h2⟩:=h
   by_cases e:p.1=k
   . rw[A11 e,A11 (h1.symm.trans e)];exact⟨h1,ry⟩
   rw[A0Y e,A0Y (λz=>e (h1.trans z))];exact⟨h1,h2⟩
theorem KV.put {kvs:List (κ×V)}{vs:List (κ×Value)}(r:KV kvs vs)(k:κ){y:V}{u:Value}(ry:RelV y u):KV (Hl kvs k y) (stored vs k u):=by
 unfold Hl stored
 rw[r.any k]
 by_cases e:(vs.any λkv=>decide (kv.1=k))=true
 . rw[A11 e,A11 e];exact r.repl k ry
 rw[A0Y e,A0Y e];exact Paired.snoc r ⟨rfl,ry⟩
theorem KV.drop {kvs:List (κ×V)}{vs:List (κ×Value)}(r:KV kvs vs)(k:κ):KV (Ei kvs k) (without vs k):=by
 unfold KV at r ⊢
 unfold Ei without
 induction r with
 | nil=>exact .nil
 | @cons p q ps qs h t ih=>
   obtain⟨h1,h2⟩:=h
   rw[A43,A43]
   by_cases e:p.1=k
   . have a:¬ decide (p.1≠k)=true:=by simp[e]
     have b:¬ decide (q.1≠k)=true:=by simp[h1.symm.trans e]
     rw[A0Y a,A0Y b];exact ih
   have e':¬ q.1=k:=λz=>e (h1.trans z)
   have a:decide (p.1≠k)=true:=by simp[e]
   have b:decide (q.1≠k)=true:=by simp[e']
   rw[A11 a,A11 b];exact .cons ⟨h1,h2⟩ ih
theorem KV.keys {kvs:List (κ×V)}{vs:List (κ×Value)}(r:KV kvs vs):kvs.map (·.1)=vs.map (·.1):=by
 unfold KV at r
 induction r with
 | nil=>rfl
 | cons h t ih=>rw[A0X,A0X,ih,h.1]
theorem KV.length {kvs:List (κ×V)}{vs:List (κ×Value)}(r:KV kvs vs):kvs.length=vs.length:=A2M r
theorem a74 (kvs:List (κ×V))(k:κ):(Ei kvs k).length<=kvs.length:=A1Y _ _
end
theorem Op {P:Program}{w:World}{k:Key}{u:Value}(r:RelV (kV k) u):(Ar P w).is k u=true:=by
 cases k with
 | inl i=>obtain⟨t,e⟩:=(show ∃ t,u=Value.int i t from r);subst e;exact Up P w i t
 | inr x=>obtain⟨t,e⟩:=(show ∃ t,u=Value.str x t from r);subst e;exact Uj P w x t
theorem Tf {P:Program}{w:World}:∀ {ks:List Key} {us:List Value},Vals (ks.map kV) us->ItemsAre (Ar P w) ks us
 | [],_,r=>by rw[List.map_nil] at r;cases r;exact .nil
 | k :: ks,_,r=>by
   rw[A0X] at r
   cases r with
   | cons h t=>exact .cons (Op h) (Tf t)
abbrev KT (H:Hp):List (List Key×V)->List (List Key×Addr×Value)->Prop:=Paired λp q=>p.1=q.1/\H q.2.1=some (.tup (p.1.map kV))/\RelV p.2 q.2.2
theorem KT.val {H:Hp}{kvs:List (List Key×V)}{xs:List (List Key×Addr×Value)}(r:KT H kvs xs)(k:List Key):RelO (Dj kvs k) ((atKey xs k).map (·.2)):=by
 induction r with
 | nil=>exact A1G
 | @cons p q ps qs h t ih=>
   obtain⟨h1,_,h2⟩:=h
   by_cases e:p.1=k
   . have e':q.1=k:=h1.symm.trans e
     have b:atKey (q :: qs) k=some q.2:=by simp[atKey,List.find?_cons,e']
     rw[Bj e,b];exact h2
   have e':¬ q.1=k:=λz=>e (h1.trans z)
   have b:atKey (q :: qs) k=atKey qs k:=by simp[atKey,List.find?_cons,e']
   rw[B9 e,b];exact ih
theorem KT.repl {H:Hp} {kvs:List (List Key×V)} {xs:List (List Key×Addr×Value)} (r:KT H kvs xs) (k:List Key) {y:V} {u:Value} (ry:RelV y u) :
  KT H (kvs.map λkv=>if kv.1=k then(kv.1,y) else kv) (xs.map (putAt k u)):=by
 induction r with
 | nil=>exact .nil
 | @cons p q ps qs h t ih=>
   rw[A0X,A0X]
   refine .cons ?_ ih
   obtain⟨h1,h2,h3⟩:=h
   unfold putAt
   by_cases e:p.1=k
   . rw[A11 e,A11 (h1.symm.trans e)];exact⟨h1,h2,ry⟩
   rw[A0Y e,A0Y (λz=>e (h1.trans z))];exact⟨h1,h2,h3⟩
theorem KT.put {H:Hp}{kvs:List (List Key×V)}{xs:List (List Key×Addr×Value)}(r:KT H kvs xs)(k:List Key){b:Addr}{y:V}{u:Value}(hb:H b=some (.tup (k.map kV)))(ry:RelV y u) :
  KT H (Hl kvs k y) (storedH xs k b u):=by
 have e:(kvs.any λkv=>decide (kv.1=k))=(atKey xs k).isSome:=by
  rw[Gm,(r.val k).isSome_eq,Option.isSome_map]
 unfold Hl storedH
 rw[e]
 by_cases q:(atKey xs k).isSome=true
 . rw[A11 q,A11 q];exact r.repl k ry
 rw[A0Y q,A0Y q];exact Paired.snoc r ⟨rfl,hb,ry⟩
theorem KT.keeps {H H':Hp}{kvs:List (List Key×V)}{xs:List (List Key×Addr×Value)}(r:KT H kvs xs)(ht:∀ b ys,H b=some (.tup ys)->H' b=some (.tup ys)):KT H' kvs xs:=
 Paired.mapP r λ_ _ z=>⟨z.1,ht _ _ z.2.1,z.2.2⟩
section
variable {P:Program}{w:World}{H:Hp}{h:Heap}{a:Addr}
theorem ax3 {u:HO}(ok:HOk P w H h)(e:Rd H a u):ObjOk P w H h a u:=e.ok ok
theorem Ra {kvs:List (Key×V)}(ok:HOk P w H h)(e:Rd H a (.dK kvs)):kvs.length<=sizeLine/\(a==sysModules)=false/\∃ vs,KV kvs vs/\h.DictOf (Ar P w) a vs:=
 show ObjOk P w H h a (.dK kvs) from ax3 ok e
theorem Rl {kvs:List (Key×V)}(ok:HOk P w H h)(e:H a=some (.dK kvs)):kvs.length<=sizeLine/\(a==sysModules)=false/\∃ vs,KV kvs vs/\h.DictOf (Ar P w) a vs:=Ra ok (.inl e)
theorem Nv {ks:List Key}(ok:HOk P w H h)(e:H a=some (.tup (ks.map kV))):(tupleKind (Ar P w)).is h ks a:=by
 obtain⟨_,its,r,o,h1,h2,⟨n,h3⟩,_⟩:=(show ObjOk P w H h a (.tup (ks.map kV)) from ok a _ e)
 exact⟨o,its.toArray,n,h1,h2,h3,by simpa using Tf r⟩
theorem Rt {kvs:List (List Key×V)}(ok:HOk P w H h)(e:Rd H a (.dT kvs)):kvs.length<=sizeLine/\(a==sysModules)=false /\
  ∃ xs,KT H kvs xs/\h.DictOfH (tupleKind (Ar P w)) a xs:=by
 obtain⟨z,y,xs,r,o,es,ep,h1,h2,h3,h4,h5⟩:=(show ObjOk P w H h a (.dT kvs) from ax3 ok e)
 refine⟨z,y,xs,r,o,es,ep,h1,h2,h3,h4,λx hx=>?_,h5⟩
 have all:∀ {l:List (List Key×V)} {m:List (List Key×Addr×Value)},KT H l m->∀ x∈m,(tupleKind (Ar P w)).is h x.1 x.2.1:=by
  intro l m q
  induction q with
  | nil=>intro x hx;exact nomatch hx
  | @cons p q ps qs hq t ih=>
    intro x hx
    rcases A0K.mp hx with e | hx
    . subst e
      exact Nv ok (by rw[<- hq.1];exact hq.2.1)
    exact ih x hx
 exact all r x hx
theorem aF8 {kvs:List (List Key×V)}(ok:HOk P w H h)(e:H a=some (.dT kvs)):kvs.length<=sizeLine/\(a==sysModules)=false /\
  ∃ xs,KT H kvs xs/\h.DictOfH (tupleKind (Ar P w)) a xs:=Rt ok (.inl e)
end
def DGet (H:Hp)(a:Addr)(y:V)(r:Option V):Prop:=
 (∃ kvs k,Rd H a (.dK kvs)/\y=kV k/\r=Dj kvs k)\/∃ kvs k b,Rd H a (.dT kvs)/\y = .ref b/\H b=some (.tup (k.map kV))/\r=Dj kvs k
def DPut (H:Hp)(a:Addr)(y v:V)(H':Hp):Prop:=
 (∃ kvs k,H a=some (.dK kvs)/\y=kV k/\kvs.length<sizeLine/\H'=upd H a (.dK (Hl kvs k v))) \/
 ∃ kvs k b,H a=some (.dT kvs)/\y = .ref b/\H b=some (.tup (k.map kV))/\kvs.length<sizeLine/\H'=upd H a (.dT (Hl kvs k v))
theorem DGet.k {H:Hp}{a:Addr}{kvs:List (Key×V)}{k:Key}(e:H a=some (.dK kvs)):DGet H a (kV k) (Dj kvs k):=.inl ⟨kvs,k,.inl e,rfl,rfl⟩
theorem DPut.k {H:Hp}{a:Addr}{kvs:List (Key×V)}{k:Key}{v:V}(e:H a=some (.dK kvs))(hl:kvs.length<sizeLine):DPut H a (kV k) v (upd H a (.dK (Hl kvs k v))):=.inl ⟨kvs,k,e,rfl,hl,rfl⟩
section
variable {X:Cx}{pins:List (Addr×Obj)}{σ:St}{H:Hp}{s:Shared}{a:Addr}{y v:V}{u r:Value}{o:Option V}{A:Around}{E:Value->Shared->Prop}
theorem Inv.big (I:Inv X pins σ H s):sysModules<s.heap.objs.size:=by
 have h:mainGlobals<s.heap.objs.size:=(I.mod.glob.keeps I.bk).lt
 exact Nat.lt_trans ∅ h
theorem Z3 {Q:Value->Shared->Prop}(hu:A.units+1<cLine)(I:Inv X pins σ H s)(g:DGet H a y (some v))(ry:RelV y u)(h:∀ w' s',Inv X pins σ H s'->RelV v w'->Q w' s') :
  wpAny (model X.prog X.w) A (getItem (.ref a) u) Q E s:=by
 rcases g with ⟨kvs,k,e,ey,l⟩ | ⟨kvs,k,b,e,ey,eb,l⟩
 . subst ey
   obtain⟨z,hd,vs,rel,dd⟩:=Ra I.hok e
   obtain⟨w',hw,rw'⟩:=RelO.some_of (v:=v) (o:=valueAt vs k) (by rw[l];exact rel.val k)
   exact wpAny_getItem_of (Op ry) dd.mapOf hw (h w' _ (I.tok _) rw')
 subst ey
 cases (show u=Value.ref b from ry)
 obtain⟨z,hd,xs,rel,dd⟩:=Rt I.hok e
 obtain⟨w',hw,rw'⟩:=RelO.some_of (v:=v) (o:=(atKey xs k).map (·.2)) (by rw[l];exact rel.val k)
 obtain⟨p,hp,hp2⟩:=A1L.mp hw
 refine wpAny_getItem_heap (A2F hu) (Nv I.hok eb) dd hp ?_
 rw[hp2]
 exact h w' _ (I.tok _) rw'
theorem d_in {Q:Value->Shared->Prop}(hu:A.units+1<cLine)(I:Inv X pins σ H s)(g:DGet H a y o)(ry:RelV y u)(h:∀ s',Inv X pins σ H s'->Q (.bool o.isSome) s') :
  wpAny (model X.prog X.w) A (compareOp .In u (.ref a)) Q E s:=by
 rcases g with ⟨kvs,k,e,ey,l⟩ | ⟨kvs,k,b,e,ey,eb,l⟩
 . subst ey
   obtain⟨z,hd,vs,rel,dd⟩:=Ra I.hok e
   refine wpAny_in_of (Op ry) hd dd.mapOf ?_
   rw[<- (rel.val k).isSome_eq,<- l]
   exact h _ (I.tok _)
 subst ey
 cases (show u=Value.ref b from ry)
 obtain⟨z,hd,xs,rel,dd⟩:=Rt I.hok e
 refine wpAny_in_heap (A2F hu) (Nv I.hok eb) hd dd ?_
 have q:=(rel.val k).isSome_eq
 rw[Option.isSome_map] at q
 rw[<- q,<- l]
 exact h _ (I.tok _)
theorem am8 {Q:Value->Shared->Prop}(hu:A.units+1<cLine)(I:Inv X pins σ H s)(g:DGet H a y o)(ry:RelV y u)(h:∀ s',Inv X pins σ H s'->Q (.bool (!o.isSome)) s') :
  wpAny (model X.prog X.w) A (compareOp .NotIn u (.ref a)) Q E s:=by
 rcases g with ⟨kvs,k,e,ey,l⟩ | ⟨kvs,k,b,e,ey,eb,l⟩
 . subst ey
   obtain⟨z,hd,vs,rel,dd⟩:=Ra I.hok e
   refine wpAny_notIn_of (Op ry) hd dd.mapOf ?_
   rw[<- (rel.val k).isSome_eq,<- l]
   exact h _ (I.tok _)
 subst ey
 cases (show u=Value.ref b from ry)
 obtain⟨z,hd,xs,rel,dd⟩:=Rt I.hok e
 refine wpAny_notIn_heap (A2F hu) (Nv I.hok eb) hd dd ?_
 have q:=(rel.val k).isSome_eq
 rw[Option.isSome_map] at q
 rw[<- q,<- l]
 exact h _ (I.tok _)
theorem Nd {h':Heap}{t':Nat}{ob:HO}(I:Inv X pins σ H s)(mu:Mut (H a))(hs:Heap.SameBut a s.heap h')(he:∃ q,h'.get? a=some q)(new:ObjOk X.prog X.w (upd H a ob) h' a ob) :
  Inv X pins σ (upd H a ob) { s with heap:=h',toks:=t' }:=
 I.write (x:=a) (e:=a) mu (.inl rfl) (λb q hb z=>(hs.2 b hb).trans z) he new
theorem Sg {P:Program}{w:World}{H':Hp}{h':Heap}{kvs:List (Key×V)}{vs:List (Key×Value)}(z:kvs.length<=sizeLine)(hd:(a==sysModules)=false)(rel:KV kvs vs)(dd:h'.DictOf (Ar P w) a vs) :
  ObjOk P w H' h' a (.dK kvs):=⟨z,hd,vs,rel,dd⟩
theorem Zp {H':Hp}{Q:Unit->Shared->Prop}(hu:A.units+1<cLine)(I:Inv X pins σ H s)(g:DPut H a y v H')(ry:RelV y u)(rv:RelV v r)(h:∀ s',Inv X pins σ H' s'->Q () s') :
  wpAny (model X.prog X.w) A (setItem (.ref a) u r) Q E s:=by
 rcases g with ⟨kvs,k,e,ey,l,eH⟩ | ⟨kvs,k,b,e,ey,eb,l,eH⟩
 . subst ey eH
   obtain⟨z,hd,vs,rel,dd⟩:=Rl I.hok e
   have hz:vs.length<=sizeLine:=by rw[<- rel.length];exact z
   have hl:(Hl kvs k v).length<=sizeLine:=by have:=K3 kvs k v;omega
   refine wpAny_setItem_pairs (hsz:=hz) (Op ry) dd λh' dd' hs=>h _ ?_
   have he:∃ q,h'.get? a=some q:=let ⟨q,_,_,hq,_⟩:=dd';⟨q,hq⟩
   exact Nd I (by rw[e];exact A1G) hs he (Sg hl hd (rel.put k rv) dd')
 subst ey eH
 cases (show u=Value.ref b from ry)
 obtain⟨z,hd,xs,rel,dd⟩:=aF8 I.hok e
 have hz:xs.length<=sizeLine:=by rw[<- A2M rel];exact z
 have hl:(Hl kvs k v).length<=sizeLine:=by have:=K3 kvs k v;omega
 refine wpAny_setItem_heap (hsz:=hz) (A2F hu) (Nv I.hok eb) dd λh' dd' hs=>h _ ?_
 obtain⟨q,es,ep,hq,h2,h3,h4,_,h5⟩:=dd'
 refine Nd I (by rw[e];exact A1G) hs ⟨q,hq⟩ ⟨hl,hd,_,(rel.put k eb rv).keeps λc ys ec=>?_,q,es,ep,hq,h2,h3,h4,h5⟩
 rw[Au (ne_of ec e (λz=>nomatch z))]
 exact ec
end
section
variable {X:Cx}{pins:List (Addr×Obj)}{σ:St}{H:Hp}{s:Shared}{a:Addr}{kvs:List (Key×V)}{k:Key}{u:Value}{A:Around}{E:Value->Shared->Prop}
theorem aF1 {v:V}{more:List Value}{Q:Value->Shared->Prop}(I:Inv X pins σ H s)(e:H a=some (.dK kvs))(ry:RelV (kV k) u)(l:Dj kvs k=some v)(hm:more=[]\/∃ x,more=[x])
  (h:∀ w' s',Inv X pins σ (upd H a (.dK (Ei kvs k))) s'->RelV v w'->Q w' s'):wpAny (model X.prog X.w) A (call (.builtin "dict.pop") (.ref a :: u :: more)) Q E s:=by
 obtain⟨z,hd,vs,rel,dd⟩:=Rl I.hok e
 obtain⟨w',hw,rw'⟩:=RelO.some_of (v:=v) (o:=valueAt vs k) (by rw[<- l];exact rel.val k)
 have hp:(keyPart u).isSome=true:=by
  cases k with
  | inl i=>obtain⟨t,q⟩:=(show ∃ t,u=Value.int i t from ry);subst q;rfl
  | inr x=>obtain⟨t,q⟩:=(show ∃ t,u=Value.str x t from ry);subst q;rfl
 have ha:argsOk "dict.pop" ⟨.ref a :: u :: more,[]⟩:=by
  rcases hm with q | ⟨x,q⟩
  . subst q;exact PySem.F.args_dict_pop_2 _ _
  subst q;exact PySem.F.args_dict_pop_3 _ _ _
 refine A2X PySem.F.slot_dict_pop dd.typeIs PySem.F.entry_dict_pop ha (meets_dict_pop_there (Ar X.prog X.w) a (Op ry) more hm hp)
  ⟨vs,w',dd,by rw[<- rel.length];exact z,hw,λh' dd' hs=>h w' _ ?_ rw'⟩
 have he:∃ q,h'.get? a=some q:=let ⟨q,_,_,hq,_⟩:=dd';⟨q,hq⟩
 exact Nd I (by rw[e];exact A1G) hs he (Sg (A0L (a74 kvs k) z) hd (rel.drop k) dd')
theorem aE8 {Q:Value->Shared->Prop}(I:Inv X pins σ H s)(e:Rd H a (.dK kvs))(h:∀ t s',Inv X pins σ H s'->Q (.int kvs.length t) s'):wpAny (model X.prog X.w) A (call (.builtin "len") [.ref a]) Q E s:=by
 obtain⟨z,hd,vs,rel,dd⟩:=Ra I.hok e
 refine call_len_dict hd dd (by rw[<- rel.length];rw[A14] at z;omega) ?_
 rw[<- rel.length]
 exact h _ _ (I.tok _)
end
theorem Ud {X:Cx}{pins:List (Addr×Obj)}{σ:St}{H:Hp}{s:Shared}{a:Addr}{y:V}{o:Option V}(I:Inv X pins σ H s)(g:DGet H a y o):s.TypeIs (.ref a) "dict":=by
 rcases g with ⟨kvs,k,e,_,_⟩ | ⟨kvs,k,b,e,_,_,_⟩
 . obtain⟨_,_,vs,_,dd⟩:=Ra I.hok e
   exact dd.typeIs
 obtain⟨_,_,xs,_,dd⟩:=Rt I.hok e
 exact dd.typeIs
def ax7 (td ty tv:TE):TS:=λD σ H=>tv σ H λv H1=>td σ H1 λx H2=>ty σ H2 λy H3=>∃ a H4,x = .ref a/\DPut H3 a y v H4/\D.nx σ H4
section
variable {X:Cx}{o i e value:Expr}{pos pos' tpos:Pos}{td ty tv:TE}
theorem Dn (hu:X.A.units+1<cLine)(ho:PE X o td)(hi:PE X i ty)(hv:PE X value tv)(hs:swapsWith value (some (.Subscript o i pos')) pos.line X.env=pure false) :
  PS X (.Assign [.Subscript o i pos'] value pos) (ax7 td ty tv):=by
 intro pins s σ H D I h
 refine wpAny_Assign_Subscript (thn (hv pins s σ H _ I h) λr s1 ⟨v,H1,I1,rv,q1⟩=>thn (ho pins s1 σ H1 _ I1 q1) λu s2 ⟨x,H2,I2,rx,q2⟩=>thn (hi pins s2 σ H2 _ I2 q2) λiv s3 ⟨y,H3,I3,ry,a,H4,ex,g,q3⟩=>?_) hs
 subst ex
 obtain rfl:u=Value.ref a:=rx
 exact Zp hu I3 g ry rv λs4 I4=>⟨σ,H4,I4,q3⟩
end
theorem W7 {P:Program}{w:World}{H:Hp}(h:Heap)(hb:sysModules<h.objs.size):ObjOk P w H (h.push { cls:=.type "dict",data:=.dict #[] }) h.objs.size (.dK []):=
 ⟨A3J _,A0W.mpr (Ne.symm (A0J hb)),[],.nil,Heap.DictOf.new h⟩
def af1:TE:=λ_ H Q=>∀ p,H p=none->Q (.ref p) (upd H p (.dK []))
section
variable {X:Cx}{pos:Pos}
theorem Lz:PE X (.Dict [] [] pos) af1:=λpins s σ H Q I h=>
 wpAny_Dict_empty ⟨.ref s.heap.objs.size,_,I.laid (a:=s.heap.objs.size) (o:=.dK []) (t':=s.toks) (λ_ _ q=>A02 _ q) (A07 _) (W7 s.heap I.big),rfl,h _ (I.hok.fresh (A07 _))⟩
end
def My:List (TE×TE)->St->Hp->(List (V×V)->Hp->Prop)->Prop
 | [],_,H,Q=>Q [] H
 | (tk,tv) :: r,σ,H,Q=>tk σ H λx H1=>tv σ H1 λy H2=>My r σ H2 λps H3=>Q ((x,y) :: ps) H3
abbrev VV:List (V×V)->List (Value×Value)->Prop:=Paired λp q=>RelV p.1 q.1/\RelV p.2 q.2
def PPs (X:Cx)(pos:Pos)(keys:List (Option Expr))(values:List Expr)(trs:List (TE×TE)):Prop:=
 ∀(pins:List (Addr×Obj)) (s:Shared) (σ:St) (H:Hp) (Q:List (V×V)->Hp->Prop),Inv X pins σ H s->My trs σ H Q ->
  wpAny (model X.prog X.w) X.A (evalPairs (pairTrees keys values X.env pos)) (λvs s'=>∃ ps H',Inv X pins σ H' s'/\VV ps vs/\Q ps H') X.xe s
theorem R7 {X:Cx}{pos:Pos}:PPs X pos [] [] []:=λpins s σ H Q I h=>pairTrees_nil_walk ⟨[],H,I,.nil,h⟩
theorem Dm {X:Cx}{pos:Pos}{k v:Expr}{ks:List (Option Expr)}{vs:List Expr}{tk tv:TE}{trs:List (TE×TE)}(hk:PE X k tk)(hv:PE X v tv)(hr:PPs X pos ks vs trs) :
  PPs X pos (some k :: ks) (v :: vs) ((tk,tv) :: trs):=λpins s σ H Q I h=>
 pairTrees_cons_walk (thn (hk pins s σ H _ I h) λu s1 ⟨x,H1,I1,rx,q1⟩=>thn (hv pins s1 σ H1 _ I1 q1) λw2 s2 ⟨y,H2,I2,ry,q2⟩=>
  thn (hr pins s2 σ H2 _ I2 q2) λws s3 ⟨ps,H3,I3,rel,q3⟩=>⟨(x,y) :: ps,H3,I3,.cons ⟨rx,ry⟩ rel,q3⟩)
def Gd (kvs more:List (Key×V)):List (Key×V):=more.foldl (λacc kv=>Hl acc kv.1 kv.2) kvs
theorem KV.merge:∀ {more:List (Key×V)} {rs:List (Key×Value)} {kvs:List (Key×V)} {vs:List (Key×Value)},KV more rs->KV kvs vs->KV (Gd kvs more) (merged vs rs):=by
 intro more rs kvs vs r
 unfold KV at r
 induction r generalizing kvs vs with
 | nil=>intro q;exact q
 | @cons p q ps qs h t ih=>
   intro r0
   have e:KV (Hl kvs p.1 p.2) (stored vs q.1 q.2):=by
    have:=r0.put p.1 h.2
    rw[<- h.1];exact this
   exact ih e
theorem Fv:∀(more kvs:List (Key×V)),(Gd kvs more).length<=kvs.length+more.length
 | [],kvs=>by show kvs.length<=kvs.length+0;omega
 | p :: r,kvs=>by
   have h1:=Fv r (Hl kvs p.1 p.2)
   have h2:=K3 kvs p.1 p.2
   show(Gd (Hl kvs p.1 p.2) r).length<=_
   rw[A0Z];omega
theorem Qi {P:Program}{w:World}:∀ {kvs:List (Key×V)} {ws:List (Value×Value)},VV (kvs.map λkv=>(kV kv.1,kv.2)) ws->∃ rs,Carries (Ar P w) ws rs/\KV kvs rs
 | [], _,r=>by rw[List.map_nil] at r;cases r;exact⟨[],A1G,.nil⟩
 | p :: kvs,_,r=>by
   rw[A0X] at r
   cases r with
   | @cons a b as bs h t=>
     obtain⟨rs,c,q⟩:=Qi (P:=P) (w:=w) t
     obtain⟨b1,b2⟩:=b
     exact⟨(p.1,b2) :: rs,⟨Op h.1,rfl,c⟩,.cons ⟨rfl,h.2⟩ q⟩
def ar1 (trs:List (TE×TE)):TE:=fun σ H Q=>∀ p,H p=none->My trs σ (upd H p (.dK [])) λps H2=>H2 p=some (.dK [])/\∃ kvs:List (Key×V),ps=kvs.map (λkv=>(kV kv.1,kv.2))/\kvs.length<=15/\Q (.ref p) (upd H2 p (.dK (Gd [] kvs)))
theorem Re {X:Cx}{pos:Pos}{keys:List (Option Expr)}{values:List Expr}{trs:List (TE×TE)}(h:PPs X pos keys values trs)(hall:keys.all (·.isSome)=true)(hl:keys.length=values.length)(h0:keys≠[])
  (h15:keys.length<=15):PE X (.Dict keys values pos) (ar1 trs):=by
 intro pins s σ H Q I q
 have hn:=I.hok.fresh (A07 s.heap.objs.size)
 have I1:=I.laid (a:=s.heap.objs.size) (o:=.dK []) (h':=s.heap.push { cls:=.type "dict",data:=.dict #[] }) (t':=s.toks) (λ_ _ q=>A02 _ q) (A07 _) (W7 s.heap I.big)
 refine wpAny_Dict_walk (knd:=Ar X.prog X.w) hall hl h0 h15 (thn (h pins _ σ _ _ I1 (q _ hn)) λws s2 ⟨ps,H2,I2,rel,e,kvs,ep,lk,q2⟩=>?_)
 subst ep
 obtain⟨rs,c,rk⟩:=Qi (P:=X.prog) (w:=X.w) rel
 obtain⟨z,hd,vs0,r0,dd⟩:=Rl I2.hok e
 cases r0
 refine⟨rs,c,dd,λh' dd' hs=>⟨.ref s.heap.objs.size,_,?_,rfl,q2⟩⟩
 have hz:(Gd [] kvs).length<=sizeLine:=by
  have h1:=Fv kvs []
  rw[List.length_nil] at h1
  rw[A14];omega
 have he:∃ q,h'.get? s.heap.objs.size=some q:=let ⟨q,_,_,hq,_⟩:=dd';⟨q,hq⟩
 exact Nd I2 (by rw[e];exact A1G) hs he (Sg hz hd (rk.merge .nil) dd')
structure M1 (X:Cx)(o:Expr)(m:Str)(apos:Pos)(e:Expr)(cpos:Pos):Prop where
 base:attributeBase o m X.env (eval o X.env)=eval o X.env
 few:((backTo cpos (starEach [e] X.env)).all (λx=>!x.1)&&(backToKw cpos (keywordEach [] X.env)).all (λx=>x.1.isSome)
  && decide (([e]:List Expr).length+([]:List Keyword).length+(if([]:List Keyword).isEmpty then 0 else 1)<30))=true
 line:(apos.endLine==cpos.line)=true
 trees:backTo cpos (starEach [e] X.env)=[(false,eval e X.env)]
structure M2 (X:Cx)(o:Expr)(m:Str)(apos:Pos)(e f:Expr)(cpos:Pos):Prop where
 base:attributeBase o m X.env (eval o X.env)=eval o X.env
 few:((backTo cpos (starEach [e,f] X.env)).all (λx=>!x.1)&&(backToKw cpos (keywordEach [] X.env)).all (λx=>x.1.isSome)
  && decide (([e,f]:List Expr).length+([]:List Keyword).length+(if([]:List Keyword).isEmpty then 0 else 1)<30))=true
 line:(apos.endLine==cpos.line)=true
 trees:backTo cpos (starEach [e,f] X.env)=[(false,eval e X.env),(false,eval f X.env)]
def IsD (H:Hp)(a:Addr):Prop:=(∃ kvs,Rd H a (.dK kvs))\/∃ kvs,Rd H a (.dT kvs)
theorem Zr {X:Cx}{pins:List (Addr×Obj)}{σ:St}{H:Hp}{s:Shared}{a:Addr}(I:Inv X pins σ H s)(d:IsD H a) :
  s.TypeIs (.ref a) "dict" /\ (∀ b,Value.ref a = .ref b->∃ ob,s.heap.get? b=some ob/\ob.dict=none)/\(a==sysModules)=false:=by
 rcases d with ⟨kvs,e⟩ | ⟨kvs,e⟩
 . obtain⟨_,hd,vs,_,dd⟩:=Ra I.hok e
   refine⟨dd.typeIs,λb q=>?_,hd⟩
   cases q
   obtain⟨ob,_,_,h1,h2,_⟩:=dd
   exact⟨ob,h1,h2.2.1⟩
 obtain⟨_,hd,xs,_,dd⟩:=Rt I.hok e
 refine⟨dd.typeIs,λb q=>?_,hd⟩
 cases q
 obtain⟨ob,_,_,h1,h2,_⟩:=dd
 exact⟨ob,h1,h2.2.1⟩
section
variable {X:Cx}{pins:List (Addr×Obj)}{σ:St}{H:Hp}{s:Shared}{a:Addr}{y d:V}{u r:Value}{o:Option V}{A:Around}{E:Value->Shared->Prop}
theorem ay9 {Q:Value->Shared->Prop}(hu:A.units+1<cLine)(I:Inv X pins σ H s)(g:DGet H a y o)(ry:RelV y u)(h:∀ w' s',Inv X pins σ H s'->RelV (o.getD .non) w'->Q w' s') :
  wpAny (model X.prog X.w) A (call (.builtin "dict.get") [.ref a,u]) Q E s:=by
 rcases g with ⟨kvs,k,e,ey,l⟩ | ⟨kvs,k,b,e,ey,eb,l⟩
 . subst ey
   obtain⟨z,hd,vs,rel,dd⟩:=Ra I.hok e
   refine A2X A1Z dd.typeIs A35 (PySem.F.args_dict_get_2 _ _) (meets_dict_get (Ar X.prog X.w) a (Op ry) hd) ⟨_,dd.mapOf,h _ _ (I.tok _) ?_⟩
   rw[l]
   exact(rel.val k).getD rfl
 subst ey
 cases (show u=Value.ref b from ry)
 obtain⟨z,hd,xs,rel,dd⟩:=Rt I.hok e
 refine A2X A1Z dd.typeIs A35 (PySem.F.args_dict_get_2 _ _) (meetsH_dict_get (tupleKind (Ar X.prog X.w)) a b hd) ⟨A2F hu,k,xs,Nv I.hok eb,dd,h _ _ (I.tok _) ?_⟩
 rw[l]
 exact(rel.val k).getD rfl
theorem aB6 {Q:Value->Shared->Prop}(hu:A.units+1<cLine)(I:Inv X pins σ H s)(g:DGet H a y o)(ry:RelV y u)(rd:RelV d r)(h:∀ w' s',Inv X pins σ H s'->RelV (o.getD d) w'->Q w' s') :
  wpAny (model X.prog X.w) A (call (.builtin "dict.get") [.ref a,u,r]) Q E s:=by
 rcases g with ⟨kvs,k,e,ey,l⟩ | ⟨kvs,k,b,e,ey,eb,l⟩
 . subst ey
   obtain⟨z,hd,vs,rel,dd⟩:=Ra I.hok e
   refine A2X A1Z dd.typeIs A35 (PySem.F.args_dict_get_3 _ _ _) (meets_dict_get_default (Ar X.prog X.w) a (Op ry) hd r) ⟨_,dd.mapOf,h _ _ (I.tok _) ?_⟩
   rw[l]
   exact(rel.val k).getD rd
 subst ey
 cases (show u=Value.ref b from ry)
 obtain⟨z,hd,xs,rel,dd⟩:=Rt I.hok e
 refine A2X A1Z dd.typeIs A35 (PySem.F.args_dict_get_3 _ _ _) (meetsH_dict_get_default (tupleKind (Ar X.prog X.w)) a b hd r) ⟨A2F hu,k,xs,Nv I.hok eb,dd,h _ _ (I.tok _) ?_⟩
 rw[l]
 exact(rel.val k).getD rd
end
def ag6 (td ty:TE):TE:=fun σ H Q=>td σ H λx H1=>∃ a,x = .ref a/\IsD H1 a/\ty σ H1 λy H2=>∃ o,DGet H2 a y o/\Q (o.getD .non) H2
def af3 (td ty tx:TE):TE:=fun σ H Q=>td σ H λx H1=>∃ a,x = .ref a/\IsD H1 a/\ty σ H1 λy H2=>tx σ H2 λz H3=>∃ o,DGet H3 a y o/\Q (o.getD z) H3
def ag3 (td ty:TE):TE:=fun σ H Q=>td σ H λx H1=>∃ a,x = .ref a/\IsD H1 a/\ty σ H1 λy H2=>∃ kvs k v,H2 a=some (.dK kvs)/\y=kV k/\Dj kvs k=some v/\Q v (upd H2 a (.dK (Ei kvs k)))
section
variable {X:Cx}{o e f:Expr}{apos cpos:Pos}{td ty tx:TE}
theorem ac0 (hu:X.A.units+1<cLine)(ho:PE X o td)(he:PE X e ty)(m:M1 X o "get" apos e cpos):PE X (.Call (.Attribute o "get" apos) [e] [] cpos) (ag6 td ty):=by
 intro pins s σ H Q I h
 refine wpAny_Call_method m.base m.few m.line A2A A1Z PySem.F.type_dict_get (thn (ho pins s σ H _ I h) λu s1 ⟨x,H1,I1,rx,a,ex,d,q1⟩=>?_)
 subst ex
 obtain rfl:u=Value.ref a:=rx
 obtain⟨t1,t2,_⟩:=Zr I1 d
 refine⟨t1,t2,?_⟩
 rw[m.trees]
 refine A2C rfl (A3D (A2D (thn (he pins s1 σ H1 _ I1 q1) λiv s2 ⟨y,H2,I2,ry,ov,g,q2⟩=>A37 ?_)))
 exact ay9 hu I2 g ry λw' s3 I3 rw'=>⟨_,H2,I3,rw',q2⟩
theorem ac4 (hu:X.A.units+1<cLine)(ho:PE X o td)(he:PE X e ty)(hf:PE X f tx)(m:M2 X o "get" apos e f cpos):PE X (.Call (.Attribute o "get" apos) [e,f] [] cpos) (af3 td ty tx):=by
 intro pins s σ H Q I h
 refine wpAny_Call_method m.base m.few m.line A2A A1Z PySem.F.type_dict_get (thn (ho pins s σ H _ I h) λu s1 ⟨x,H1,I1,rx,a,ex,d,q1⟩=>?_)
 subst ex
 obtain rfl:u=Value.ref a:=rx
 obtain⟨t1,t2,_⟩:=Zr I1 d
 refine⟨t1,t2,?_⟩
 rw[m.trees]
 refine A2C rfl (A3D (A2D (thn (he pins s1 σ H1 _ I1 q1) λiv s2 ⟨y,H2,I2,ry,q2⟩=>
  A2D (thn (hf pins s2 σ H2 _ I2 q2) λfv s3 ⟨z,H3,I3,rz,ov,g,q3⟩=>A37 ?_))))
 exact aB6 hu I3 g ry rz λw' s4 I4 rw'=>⟨_,H3,I4,rw',q3⟩
theorem Vj (ho:PE X o td)(he:PE X e ty)(m:M1 X o "pop" apos e cpos):PE X (.Call (.Attribute o "pop" apos) [e] [] cpos) (ag3 td ty):=by
 intro pins s σ H Q I h
 refine wpAny_Call_method m.base m.few m.line A2A PySem.F.slot_dict_pop PySem.F.type_dict_pop (thn (ho pins s σ H _ I h) λu s1 ⟨x,H1,I1,rx,a,ex,d,q1⟩=>?_)
 subst ex
 obtain rfl:u=Value.ref a:=rx
 obtain⟨t1,t2,_⟩:=Zr I1 d
 refine⟨t1,t2,?_⟩
 rw[m.trees]
 refine A2C rfl (A3D (A2D (thn (he pins s1 σ H1 _ I1 q1) λiv s2 ⟨y,H2,I2,ry,kvs,k,v,ea,ey,l,q2⟩=>A37 ?_)))
 subst ey
 exact aF1 I2 ea ry l (.inl rfl) λw' s3 I3 rw'=>⟨v,_,I3,rw',q2⟩
end
section
variable {X:Cx}{pins:List (Addr×Obj)}{σ:St}{H:Hp}{s:Shared}{a:Addr}{kvs:List (Key×V)}{A:Around}{E:Value->Shared->Prop}
end
section
variable {X:Cx}{pins:List (Addr×Obj)}{σ:St}{H:Hp}{s:Shared}{a:Addr}{y:V}{u:Value}{A:Around}{E:Value->Shared->Prop}
end
end L2
namespace Att
open PySem PySem.W PySem.Calls PyProof.Rows
theorem Mo {P:Params}{h:Heap}:∀(ns:List Int) (vs:List Value),WellAll P h vs (ns.map WData.int)->IntsAre vs ns:=by
 intro ns
 induction ns with
 | nil=>
   intro vs w
   rw[List.map_nil] at w
   cases w
   exact .nil
 | cons n ns ih=>
   intro vs w
   rw[A0X] at w
   cases w with
   | cons a b=>
     cases a
     exact .cons _ _ (ih _ b)
theorem Zt {l:OpenLaw}{n:Nat}(hn:l.most=some n){P:Params}{h:Heap}{args:List WData}{vals:List Value}
  (hpre:l.row.toRowW.claim.pre args=true) (hwl:WellAll P h vals args) :
  ∃ a vs ns,vals=[Value.ref a]/\args=[WData.list (ns.map WData.int)]/\h.get? a=some { cls:=.type "list",data:=.seq vs.toArray }/\IntsAre vs ns/\ns.length<=n:=by
 have hsh:WShape.hasAll [] args [.list .int]=true:=(pre_splitW hpre).1
 have hc:l.pre.holds [] { args:=args }=true:=(pre_splitW hpre).2
 obtain⟨d,r,rfl,h1,h2⟩:=hasAllW_cons hsh
 obtain rfl:=hasAllW_nil h2
 obtain⟨xs,rfl,h3⟩:=hasW_list h1
 obtain⟨ns,rfl⟩:=items_int h3
 have hlen:ns.length<=n:=by
  unfold OpenLaw.pre at hc
  have h4:(WTm.not (.lt (.lit (.int (n:Int))) (.len (.arg 0)))).holds [] { args:=[.list (ns.map .int)] }=true:=by
   have h4:=(holds_andW hc).1
   rw[hn] at h4
   exact h4
  have h5:=condW_of h4 (w_not (w_lt w_lit (w_len_list (w_arg rfl))))
  rw[A00] at h5
  refine Nat.le_of_not_lt λq=>?_
  have q':(n:Int)<((ns.length:Nat):Int):=by omega
  first
   | (rw[A0S q'] at h5;exact absurd h5 ∅)
   | (simp at h5;omega)
 cases hwl with
 | cons w1 w2=>
   cases w2
   cases w1 with
   | list ho hall=>exact⟨_,_,ns,rfl,rfl,ho,Mo ns _ hall,hlen⟩
theorem a60 (l:OpenLaw)(args:List WData):l.row.toRowW.claim.post args (.bool true) args=true:=
 postW_of (r:=l.row.toRowW) (X:=(true==true))
  (show WShape.has [] (.bool true) .bool=true by first | rfl | decide | simp[WShape.has,WShape.arms,WShape.armsAll])
  (show(WTm.eq .res (.lit (.bool true))).value [] { args:=args,res:=some (.bool true),after:=args }=some (.bool (true==true)) from w_eq_bool (w_res rfl) w_lit) rfl
theorem attach_call {l:OpenLaw}{n:Nat}{q:Program}{loose:List Str}{XP:(Str->Option Value)->Heap->Prop}{YP:World->Heap->Prop}{d:DefRec}
  (hn:l.most=some n) (hdf:d.params.defaults=[])
  (call:∀(w:World) (s₀ s₁:Shared) (mg mb:Str->Option Value) (fa:Addr) (o:Obj) (pm cd doc:Value) (a:Addr) (vs:List Value) (ns:List Int),
   Ground q loose [] XP w s₀ mg mb s₁.heap->YP w s₁.heap ->
   s₁.heap.get? fa=some o->o.data = .func (docDef d.name d.params d.body d.scope pm cd doc)->s₁.heap.CodeRec cd d.name->mg d.name=some (.ref fa) ->
   s₁.heap.get? a=some { cls:=.type "list",data:=.seq vs.toArray }->IntsAre vs ns->ns.length<=n->s₁.gens = #[] ->
   codeAny (model l.prog w) callerA (.call (.ref fa) ⟨[.ref a],[]⟩) (λr s'=>r = .ok (.ret (.bool true))/\OldK s₁.heap s'.heap/\s'.os=s₁.os/\AllBare s'.gens) s₁) :
  WalkO q loose XP YP l.row.toRowW d [] (λf vs=>PySem.call f vs):=by
 intro w s₀ s₁ mg mb G Y fa o pm cd doc dV kV ho hd hcd hD hmg hg args vals as hpre hlay hrd hwl hlo
 obtain rfl:dV = .none:=Dflts.none hD hdf
 obtain rfl:kV = .none:=Dflts.noKw hD
 obtain⟨a,vs,ns,rfl,rfl,hobj,hints,hlen⟩:=Zt hn hpre hwl
 refine enter_call (A2W (call w s₀ s₁ mg mb fa o pm cd doc a vs ns G Y ho (fd_plain hd) hcd hmg hobj hints hlen hg) λr s' hq=>?_)
 obtain⟨rfl,h2,h3,h4⟩:=hq
 exact⟨.inl ⟨.bool true,.bool true,[],rfl,λ_=>rfl,.bool true,a60 l _,λ_=>⟨List.Pairwise.nil,λ_ hm=>(nomatch hm)⟩⟩,h2,h3,h4⟩
section
variable {prog:Program}{w:World}{A:Around}{E:Value->Shared->Prop}{s:Shared}{K:Frag}
end
end Att
namespace L2
open PySem PySem.Spec PyProof.Rows
theorem Ru:∀ {vs:List Value} {ns:List Int},IntsAre vs ns->Vals (ns.map V.int) vs
 | _,_,.nil=>.nil
 | _,_,.cons n t h=>.cons ⟨t,rfl⟩ (Ru h)
def aE9 (H:Hp):Prop:=∀ b,H b=none\/∃ o xs,H b=some (.frz o (.lst xs))
theorem ac9 {P:Program}{w:World}{K:PySem.W.Frag}{mg mb:Str->Option Value}{CX:CXT}{k:Nat}{fa a:Addr}{fd:FuncData}{x:Str}{sp:Sp}{s₁:Shared}{vs:List Value}{ns:List Int}
  (KX:K.In s₁.heap) (hns:s₁.heap.Ns mainGlobals mg) (hb:s₁.heap.Ns builtinsNs mb) (hbb:∀ x:Str,x ≠ "__name__" -> mb x=bootBuiltins x) (hlim:s₁.heap.NoLimit) (hg:s₁.gens = #[])
  (ha:s₁.heap.get? a=some { cls:=.type "list",data:=.seq vs.toArray }) (hi:IntsAre vs ns) (hl:ns.length<=sizeLine) (hr:Room k callerA)
  (F:∀ base:Heap,K.In base->base.Ns mainGlobals mg->FnOk P w K mg base CX k fa fd [x] sp) (hbind:∀(s:Shared) (u:Value),BindsTo s fd ⟨[u],[]⟩ [(x,u)])
  (hsp:∀ H:Hp,aE9 H->SqL K H a (ns.map V.int)->sp [.ref a] H (λv _=>v = .bl true) λ_ _ _=>False)
  (hCX:∀ H e s',CX [] H s₁ (λ_ _ _=>False) e s'->False) :
  codeAny (model P w) callerA (.call (.ref fa) ⟨[.ref a],[]⟩) (λr s'=>r = .ok (.ret (.bool true))/\OldK s₁.heap s'.heap/\s'.os=s₁.os/\AllBare s'.gens) s₁:=by
 have rv:=Ru hi
 have lenV:=hi.length
 have core:∀ H:Hp,aE9 H->SqL K H a (ns.map V.int)->HOk P w H s₁.heap->(∀ b,H b≠none->b=a)->(H a≠none->K.lookup a=none) ->
   codeAny (model P w) callerA (.call (.ref fa) ⟨[.ref a],[]⟩) (λr s'=>r = .ok (.ret (.bool true))/\OldK s₁.heap s'.heap/\s'.os=s₁.os/\AllBare s'.gens) s₁:=by
  intro H hO hS hok hA hK
  have base_of:∀ {b:Addr} {o:Obj},s₁.heap.get? b=some o->H b=none->(ac3 s₁.heap H).get? b=some o:=λe n=>a94 e n
  have noA:∀ {b:Addr} {o:Obj} {es:Array DictEntry} {ep:Nat},s₁.heap.get? b=some o->o.data = .dict es ep->H b=none:=fun {b o es ep} e d=>by
   cases q:H b with
   | none=>rfl
   | some u=>
     have e':b=a:=hA b (by rw[q];simp)
     subst e'
     rw[ha] at e;cases e
     have d':Data.seq vs.toArray _=Data.dict es ep:=d
     cases d'
  have nsK:∀ {b:Addr} {m:Str->Option Value},s₁.heap.Ns b m->(ac3 s₁.heap H).Ns b m:=fun {b m} ⟨o,es,ep,e,d,r⟩=>⟨o,es,ep,base_of e (noA e d),d,r⟩
  have hKb:K.In (ac3 s₁.heap H):=λb o e=>base_of (KX b o e) (by
   cases q:H b with
   | none=>rfl
   | some u=>
     have e':b=a:=hA b (by rw[q];simp)
     subst e'
     rw[hK (by rw[q];simp)] at e;cases e)
  have hM:Mod K mg (ac3 s₁.heap H):=⟨hKb,nsK hns,⟨mb,nsK hb,hbb⟩,let ⟨mc,h1,h2⟩:=hlim;⟨mc,nsK h1,h2⟩⟩
  have e0:Env0 P w K mg (ac3 s₁.heap H) callerA [] s₁ H:=⟨rfl,hM,λb o e=>ap6 e,Nat.le_of_eq (a50 _ _),trivial,λb hb=>absurd (show b∈([]:List Addr) from hb) nofun,hok,.of_eq hg⟩
  refine A2W ((F _ hKb (nsK hns)).run callerA [] s₁ H ⟨[.ref a],[]⟩ [.ref a] [.ref a] _ _ hr e0 (hbind s₁ (.ref a)) (.cons rfl .nil) (hsp H hO hS)) λr s' h=>?_
  cases r with
  | error e=>exact(hCX H e s' h).elim
  | ok fl=>
    cases fl with
    | next=>exact False.elim h
    | brk=>exact False.elim h
    | cont=>exact False.elim h
    | ret u=>
      obtain⟨v,H',os,bare,un,hok',r',q⟩:=h
      have q':v = .bl true:=q
      subst q'
      obtain rfl:u=Value.bool true:=r'
      refine⟨rfl,OldK.of_keep λb o e=>?_,os,bare⟩
      cases q:H b with
      | none=>exact un.keep b o e q (by intro z;exact absurd (show b∈([]:List Addr) from z) nofun) nofun
      | some u=>
        rcases hO b with z | ⟨ob,xs,z⟩
        . rw[q] at z;cases z
        have z2:=un.frzs b ob _ z
        obtain⟨e1,_⟩:=hok b _ z
        obtain⟨e2,_⟩:=hok' b _ z2
        rw[e] at e1;cases e1
        exact e2
 cases hk:K.lookup a with
 | some o=>
   have e:=KX a o hk
   rw[ha] at e
   cases e
   refine core (λ_=>none) (λ_=>.inl rfl) (.inr ⟨_,vs.toArray,_,hk,rfl,rfl,rfl,by rw[List.size_toArray,lenV];exact hl,by simpa using rv⟩) (λb u z=>by have z':(none:Option HO)=some u:=z;cases z') (λb z=>absurd rfl z) λz=>absurd rfl z
 | none=>
   refine core (λb=>if b=a then some (.frz { cls:=.type "list",data:=.seq vs.toArray } (.lst (ns.map V.int))) else none) (λb=>?_) (.inl (.inr ⟨{ cls:=.type "list",data:=.seq vs.toArray },A11 rfl⟩)) (λb u z=>?_) (λb z=>?_) λ_=>hk
   . by_cases hb:b=a
     . exact .inr ⟨_,_,A11 hb⟩
     exact .inl (A0Y hb)
   . by_cases hb:b=a
     . have z':=(A11 hb).symm.trans z
       cases z'
       subst hb
       exact⟨ha,by rw[A00];exact hl,vs,_,rv,ha⟩
     have z':=(A0Y hb).symm.trans z
     cases z'
   by_cases hb:b=a
   . exact hb
   exact absurd (A0Y hb) z
theorem walk_of {l:PySem.W.OpenLaw}{n k:Nat}{q:Program}{loose:List Str}{XP:(Str->Option Value)->Heap->Prop}{YP:World->Heap->Prop}{d:DefRec}{K:Params->PySem.W.Frag}{CX:World->CXT}{sp:World->Sp}{x:Str}
  (hn:l.most=some n) (hn2:n<=sizeLine) (hdf:d.params.defaults=[]) (hr:Room k callerA)
  (hY:∀(w:World) (h:Heap),YP w h->(K w.params).In h)
  (F:∀(w:World) (mg:Str->Option Value) (fa:Addr) (h:Heap),(K w.params).In h->h.Ns mainGlobals mg->mg d.name=some (.ref fa) ->
   ∃ fd:FuncData,(∀(s:Shared) (u:Value),BindsTo s fd ⟨[u],[]⟩ [(x,u)]) /\
    ∀ base:Heap,(K w.params).In base->base.Ns mainGlobals mg->FnOk l.prog w (K w.params) mg base (CX w) k fa fd [x] (sp w))
  (hsp:∀(w:World) (H:Hp) (a:Addr) (ns:List Int),ns.length<=n->aE9 H->SqL (K w.params) H a (ns.map V.int)->sp w [.ref a] H (λv _=>v = .bl true) λ_ _ _=>False)
  (hCX:∀(w:World) (H:Hp) (s:Shared) (e:Value) (s':Shared),CX w [] H s (λ_ _ _=>False) e s'->False) :
  PySem.W.WalkO q loose XP YP l.row.toRowW d [] (λf vs=>PySem.call f vs):=by
 refine Att.attach_call hn hdf λw s₀ s₁ mg mb fa o pm cd doc a vs ns G Y ho hd hcd hmg hobj hints hlen hg=>?_
 have KX:=hY w _ Y
 obtain⟨fd,hb,hF⟩:=F w mg fa _ KX G.T.g hmg
 exact ac9 KX G.T.g G.T.b G.T.builtins G.T.nolimit hg hobj hints (A0L hlen hn2) hr hF hb (λH hO hS=>hsp w H a ns hlen hO hS) λH e s'=>hCX w H s₁ e s'
def Br (s:Stmt)(j:Nat):Stmt:=match s with
 | .ClassDef _ _ _ body _ _ _ _ _ _ _=>body.getD j (.Pass ⟨0,0,0,0⟩)
 | _=>.Pass ⟨0,0,0,0⟩
def Ae (s:Stmt):Arguments:=match s with
 | .FunctionDef _ a _ _ _ _ _ _ _ _=>a
 | _=>{ posonlyargs:=[],args:=[],vararg:=none,kwonlyargs:=[],kw_defaults:=[],kwarg:=none,defaults:=[] }
def Ac (s:Stmt):List Stmt:=match s with
 | .FunctionDef _ _ b _ _ _ _ _ _ _=>b
 | _=>[]
def A6 (s:Stmt):Scope:=match s with
 | .FunctionDef _ _ _ _ _ _ sc _ _ _=>sc
 | _=>{ kind:=.function,names:=[],isGenerator:=false,isCoroutine:=false }
abbrev CX0:CXT:=λ_ _ _ _ _ _=>False
abbrev E0:XK:=λ_ _ _=>False
theorem a86 {X:Cx}:He CX0 X E0:=λ_ _ _ _ _ _ _ h=>h.elim
structure Fun (K:PySem.W.Frag)(x qual:Str)(st:Stmt)(f:Addr)(fd:FuncData):Prop where
 ex:∃(oc:Value) (od:Option Addr) (kV doc pm:Value) (an:Option Addr) (cdv ct:Value) (osl:Array (Option Value)),
  fd=PySem.W.fnOf x qual (Ae st) (Ac st) (A6 st) .none kV doc pm an cdv ct/\K.lookup f=some ⟨oc,od,.func fd,osl⟩/\PySem.W.codeIn K cdv qual=true
 kp:PySem.W.keepIn K (.ref f)=true
section
variable {P:Program}{w:World}{K:PySem.W.Frag}{mg:Str->Option Value}{base:Heap}
theorem Fun.ok {x qual:Str}{st:Stmt}{f:Addr}{fd:FuncData}{N ps:List Str}{k:Nat}{sp:Sp}(F:Fun K x qual st f fd)(S:Aj N ps (A6 st))(len:∀ vs H Q E,sp vs H Q E->vs.length=ps.length)
  (hbody:∀(cdv:Value) (A:Around) (outer:List Env) (s:Shared) (H:Hp) (vs:List V) (Q:VK) (E:XK),Room k (A.deeper (envOfC qual (A6 st) s.heap.objs.size f cdv))->sp vs H Q E ->
   ∃ t,PSs (Vl CX0 P w K mg base N qual (A6 st) f cdv A outer s H E).nox (Ac st) t/\t { nx:=λ_ H'=>Q .non H',rt:=Q } (start N vs) H):FnOk P w K mg base CX0 (k+1) f fd ps sp:=by
 obtain⟨oc,od,kV,doc,pm,an,cdv,ct,osl,rfl,lk,hcd⟩:=F.ex
 refine ay8 lk hcd S len λA outer s H vs Q E hr hsp=>?_
 obtain⟨t,h,q⟩:=hbody cdv A outer s H vs Q E hr hsp
 exact⟨t,h.nox,q⟩
theorem Fun.binds {x qual:Str}{st:Stmt}{f:Addr}{fd:FuncData}{ps:List Str}(F:Fun K x qual st f fd)
  (h:∀(kV doc pm:Value) (an:Option Addr) (cdv ct:Value) (us:List Value),us.length=ps.length->bindArgs (PySem.W.fnOf x qual (Ae st) (Ac st) (A6 st) .none kV doc pm an cdv ct) ⟨us,[]⟩=pure (ps.zip us)):Binds K fd ps []:=by
 obtain⟨oc,od,kV,doc,pm,an,cdv,ct,osl,rfl,lk,hcd⟩:=F.ex
 exact .all (h kV doc pm an cdv ct)
theorem Av {x qual:Str}{st:Stmt}{f:Addr}{oc:Value}{od an:Option Addr}{osl:Array (Option Value)}{kV doc pm cdv ct:Value}(l:K.lookup f=some ⟨oc,od,.func (PySem.W.fnOf x qual (Ae st) (Ac st) (A6 st) .none kV doc pm an cdv ct),osl⟩)
  (c:PySem.W.codeIn K cdv qual=true) (k:PySem.W.keepIn K (.ref f)=true):Fun K x qual st f (PySem.W.fnOf x qual (Ae st) (Ac st) (A6 st) .none kV doc pm an cdv ct):=⟨⟨oc,od,kV,doc,pm,an,cdv,ct,osl,rfl,l,c⟩,k⟩
end
theorem Cc {A:Around}{k:Nat}(hr:Room k A):A.units+1<cLine:=A4T (Nat.add_le_add_left (by decide:1<=64) _) hr.units
theorem a59 {n:Nat}(h:n<=1000):n<sizeLine:=A4T h ∅
section
variable {X:Cx}
theorem pv (i:Nat){x:Str}{pos:Pos}(hN:X.N[i]? = some x:=by ac_nf)(hv:Vis X.env.scope x:=by with_unfolding_all first | exact Or.inl rfl | exact Or.inr (Or.inl rfl) | exact Or.inr (Or.inr rfl))(hd:(x==("__debug__":Str))=false:=by decide)
  (hcd:(x==("__classdict__":Str))=false:=by decide):PE X (.Name x pos) (aE6 i):=aA8 hN hv hd hcd
end
theorem iteF {A B:Prop}(h:B):if false=true then A else B:=by
 rw[A0Y A0D]
 exact h
theorem iteT {A B:Prop}(h:A):if true=true then A else B:=by
 rw[A11 rfl]
 exact h
theorem aJ7 {c A B:Prop}[Decidable c](h1:c->A)(h2:¬ c->B):if c then A else B:=by
 by_cases h:c
 . rw[A11 h]
   exact h1 h
 rw[A0Y h]
 exact h2 h
def Same (H H':Hp):Prop:=∀ b o,H b=some o->H' b=some o
theorem Same.refl (H:Hp):Same H H:=λ_ _ h=>h
theorem Same.trans {H H1 H2:Hp} (a:Same H H1) (b:Same H1 H2):Same H H2:=λc o h=>b c o (a c o h)
theorem Same.free {H H':Hp}(e:Same H H'){l:Addr}(h:H' l=Option.none):H l=Option.none:=by
 cases q:H l with
 | none=>rfl
 | some o=>
   rw[e l o q] at h
   cases h
theorem Same.seq {K:PySem.W.Frag}{H H':Hp}{a:Addr}{xs:List V}(e:Same H H')(h:SqL K H a xs):SqL K H' a xs:=by
 rcases h with (h | ⟨o,h⟩) | h
 . exact .inl (.inl (e _ _ h))
 . exact .inl (.inr ⟨o,e _ _ h⟩)
 exact .inr h
section
variable {X:Cx}
theorem Zd:CallR X (.builtin "len") (λxs H Q=>∃ a kvs,xs=[V.ref a]/\H a=some (.dK kvs)/\Q (.int kvs.length) H):=by
 intro pins s σ H xs us Q I r h
 obtain⟨a,kvs,rfl,ha,q⟩:=h
 obtain⟨u,rfl,ru⟩:=Km r
 cases ru
 exact aE8 I (.inl ha) λt s' I'=>⟨.int kvs.length,H,I',⟨t,rfl⟩,q⟩
end
section
variable {κ:Type}[DecidableEq κ]
theorem a76 {kvs:List (κ×V)}{k:κ}(h:Dj kvs k=none):¬ k∈kvs.map (·.1):=by
 intro m
 obtain⟨p,hp,e⟩:=A0I.mp m
 have q:(kvs.any λkv=>decide (kv.1=k))=true:=A1P.mpr ⟨p,hp,A0S e⟩
 rw[Gm,h] at q
 exact absurd q nofun
theorem ap5 {kvs:List (κ×V)}{k:κ}{v:V}(h:Dj kvs k=some v):k∈kvs.map (·.1):=by
 have q:(kvs.any λkv=>decide (kv.1=k))=true:=by
  rw[Gm,h]
  all_goals rfl
 obtain ⟨p,hp,e⟩:=A1P.mp q
 exact A0I.mpr ⟨p,hp,of_decide_eq_true e⟩
theorem Zu:∀ {l:List κ} {k:κ},l.Nodup->¬ k∈l->(l++[k]).Nodup
 | [],k,_,_=>by simp
 | a :: r,k,h,hk=>by
   obtain⟨h1,h2⟩:=A13.mp h
   show(a :: (r++[k])).Nodup
   refine A13.mpr ⟨λm=>?_,Zu h2 λm=>hk (A0K.mpr (Or.inr m))⟩
   rcases A0B.mp m with q | q
   . exact h1 q
   exact hk (A0K.mpr (Or.inl (A15.mp q).symm))
theorem ao0 {kvs:List (κ×V)}{k:κ}(v:V)(hn:(kvs.map (·.1)).Nodup)(h:Dj kvs k=none):((Hl kvs k v).map (·.1)).Nodup:=by
 rw[Kh v h,A0G]
 exact Zu hn (a76 h)
theorem a53 {p:κ×V}{r:List (κ×V)}{k:κ}(e:p.1=k):Ei (p :: r) k=Ei r k:=by
 unfold Ei
 rw[List.filter_cons,if_neg (by simp[e])]
end
def Lr (env:Env)(names:List (Str×NameKind))(acc:List (Str×Addr)):List (Str×Addr):=
 names.foldl (λacc y=>if y.2==NameKind.free then(y.1,(env.cells.lookup y.1).getD 0) :: acc else acc) acc
theorem Qb {env:Env}{scope:Scope}(h:∀ y∈scope.names,y.2=NameKind.free->∃ c,env.cells.lookup y.1=some c):closureFor scope env=pure (Lr env scope.names []):=by
 have all:∀(names:List (Str×NameKind)) (acc:List (Str×Addr)),(∀ y∈names,y.2=NameKind.free->∃ c,env.cells.lookup y.1=some c) ->
   (forIn names acc λ(y:Str×NameKind) (cs:List (Str×Addr))=>(match y with
    | (name,kind)=>if(kind==NameKind.free)=true then do let c <- cellOf env name;pure (ForInStep.yield ((name,c) :: cs)) else pure (ForInStep.yield cs):Sem (ForInStep (List (Str×Addr)))))=(pure (Lr env names acc):Sem (List (Str×Addr))):=by
  intro names
  induction names with
  | nil=>intro acc _;rfl
  | cons y r ih=>
    intro acc hy
    obtain⟨n,k⟩:=y
    rw[List.forIn_cons]
    by_cases hk:k=NameKind.free
    . subst hk
      obtain⟨c,hc⟩:=hy (n,.free) A0V rfl
      have e:cellOf env n=pure c:=by unfold cellOf;rw[show env.cells.lookup n=some c from hc]
      have e2:Lr env ((n,NameKind.free) :: r) acc=Lr env r ((n,c) :: acc):=by
       unfold Lr
       rw[A4A]
       simp only[beq_self_eq_true,if_true]
       rw[show env.cells.lookup n=some c from hc]
       rfl
      rw[e2,<- ih ((n,c) :: acc) λz hz=>hy z (A0C _ hz)]
      simp only[beq_self_eq_true,if_true,e]
      rfl
    have hb:(k==NameKind.free)=false:=by simpa using hk
    have e2:Lr env ((n,k) :: r) acc=Lr env r acc:=by
     unfold Lr
     rw[A4A]
     simp only[hb,Bool.false_eq_true,if_false]
    rw[e2,<- ih acc λz hz=>hy z (A0C _ hz)]
    simp only[hb,Bool.false_eq_true,if_false]
    rfl
 have q:=all scope.names [] h
 unfold closureFor
 first
  | exact q
  | (simp only[bind_pure];exact q)
  | (refine Eq.trans ?_ q;rfl)
theorem W9 {env:Env}{x:Str}{c:Addr}:∀ {names:List (Str×NameKind)} {acc:List (Str×Addr)},(∀ y∈names,y.2=NameKind.free->∃ c,env.cells.lookup y.1=some c)->(acc.lookup x=some c->env.cells.lookup x=some c) ->
  (Lr env names acc).lookup x=some c->env.cells.lookup x=some c
 | [],acc,_,ha,h=>ha h
 | (n,k) :: r,acc,hn,ha,h=>by
   have e:Lr env ((n,k) :: r) acc=Lr env r (if k==NameKind.free then(n,(env.cells.lookup n).getD 0) :: acc else acc):=rfl
   rw[e] at h
   refine W9 (λy hy=>hn y (A0C _ hy)) (λq=>?_) h
   by_cases hk:k=NameKind.free
   . subst hk
     simp only[beq_self_eq_true,if_true,List.lookup_cons] at q
     obtain⟨d,hd⟩:=hn (n,.free) A0V rfl
     have hd':env.cells.lookup n=some d:=hd
     split at q
     . rename_i hx
       have hx':x=n:=A1M.mp hx
       rw[hd'] at q
       rw[hx',hd']
       exact q
     exact ha q
   have hb:(k==NameKind.free)=false:=by simpa using hk
   simp only[hb,Bool.false_eq_true,if_false] at q
   exact ha q
theorem Rk {env:Env}{x:Str}:∀ {names:List (Str×NameKind)} {acc:List (Str×Addr)},((∃ c,acc.lookup x=some c)\/(x,NameKind.free)∈names)->∃ c,(Lr env names acc).lookup x=some c
 | [],acc,h=>by
   rcases h with h | h
   . exact h
   cases h
 | (n,k) :: r,acc,h=>by
   have e:Lr env ((n,k) :: r) acc=Lr env r (if k==NameKind.free then(n,(env.cells.lookup n).getD 0) :: acc else acc):=rfl
   rw[e]
   refine Rk ?_
   by_cases hk:k=NameKind.free
   . subst hk
     simp only[beq_self_eq_true,if_true,List.lookup_cons]
     by_cases hx:x=n
     . left
       have hb:(x==n)=true:=A1M.mpr hx
       rw[hb]
       exact⟨_,rfl⟩
     have hb:(x==n)=false:=A0W.mpr hx
     rw[hb]
     rcases h with h | h
     . exact .inl h
     rcases A0K.mp h with q | q
     . cases q;exact absurd rfl hx
     exact .inr q
   have hb:(k==NameKind.free)=false:=by simpa using hk
   simp only[hb,Bool.false_eq_true,if_false]
   rcases h with h | h
   . exact .inl h
   rcases A0K.mp h with q | q
   . cases q;exact absurd rfl hk
   exact .inr q
theorem Ee:∀(names:List (Str×NameKind)) (n:Nat) (acc:List (Str×Addr)),cellsFrom n names acc=cellsFrom n names []++acc
 | [],_,_=>rfl
 | (x,k) :: r,n,acc=>by
   unfold cellsFrom
   split
   . rw[Ee r (n+1) ((x,n) :: acc),Ee r (n+1) [(x,n)],List.append_assoc]
     rfl
   exact Ee r n acc
theorem L6 {x:Str}{c:Addr}:∀ {names:List (Str×NameKind)} {n:Nat},(x,c)∈cellsFrom n names []->(x,NameKind.cell)∈names
 | [],_,h=>by cases h
 | (y,k) :: r,n,h=>by
   unfold cellsFrom at h
   split at h
   . rename_i hk
     rw[Ee] at h
     rcases A0B.mp h with h | h
     . exact A0C _ (L6 h)
     have e:=A15.mp h
     cases e
     rw[A1M.mp hk]
     exact A0V
   exact A0C _ (L6 h)
theorem Oc {α:Type}{x:Str}{c:α}:∀ {l:List (Str×α)},(x,c)∈l->∃ d,l.lookup x=some d
 | [],h=>by cases h
 | (y, d) :: r,h=>by
   rw[A1D]
   cases e:x==y with
   | true=>exact⟨d,rfl⟩
   | false=>
     rcases A0K.mp h with q | q
     . cases q
       simp at e
     exact Oc q
theorem Kn {x:Str}:∀ {names:List (Str×NameKind)} {n:Nat},(x,NameKind.cell)∈names->∃ c,(x,c)∈cellsFrom n names []
 | [],_,h=>by cases h
 | (y,k) :: r,n,h=>by
   unfold cellsFrom
   split
   . rw[Ee]
     rcases A0K.mp h with q | q
     . cases q
       exact⟨n,A0M _ nofun⟩
     obtain⟨c,hc⟩:=Kn (n:=n+1) q
     exact⟨c,A0T _ hc⟩
   rename_i hk
   rcases A0K.mp h with q | q
   . cases q
     exact absurd rfl hk
   exact Kn q
def Vh (outer scope:Scope)(xs fr:List Str):Bool:=
 (scope.kind == .function)&&(outer.kind == .function)&&decide (scope.names.map (·.1)).Nodup
 && (scope.names.all λy=>y.2 != .local||scope.names.lookup y.1==some .local)
 && (scope.names.all λy=>y.2 != .free||(outer.names.lookup y.1==some .cell||outer.names.lookup y.1==some .free))
 && (scope.names.all λy=>y.2 != .free||scope.names.lookup y.1==some .free)
 && (xs.all λx=>scope.names.lookup x==some .local||scope.names.lookup x==some .cell)&&(fr.all λx=>scope.names.lookup x==some .free)&&decide (xs++fr).Nodup
theorem Do {α:Type}{x:Str}{v:α}:∀ {l:List (Str×α)},l.lookup x=some v->(x,v)∈l
 | [],h=>by cases h
 | (n,k) :: r,h=>by
   rw[A1D] at h
   split at h
   . rename_i hx
     have hx':x=n:=A1M.mp hx
     cases h
     rw[hx']
     exact A0V
   exact A0C _ (Do h)
theorem Jr {scope:Scope}{env:Env}{x:Str}{k:NameKind}(hk:env.scope.kind = .function):∀ {names:List (Str×NameKind)},names.lookup x=some k ->
  (names.map λ(n,k)=>if(k==NameKind.free&&env.scope.kind == .function&&env.kindOf n==some .cell) then(n,NameKind.cell) else(n,k)).lookup x=some (if(k==NameKind.free&&env.kindOf x==some .cell) then .cell else k)
 | [],h=>by cases h
 | (n,j) :: r,h=>by
   have ih:=@Jr scope env x k hk r
   rw[A0X]
   rw[A1D] at h
   dsimp only
   split at h
   . rename_i hx
     have hx':x=n:=A1M.mp hx
     cases h
     subst hx'
     by_cases hc:(k==NameKind.free&&env.scope.kind == .function&&env.kindOf x==some .cell)=true
     . have hc2:(k==NameKind.free&&env.kindOf x==some .cell)=true:=by
        rw[A19,A19] at hc
        rw[A19]
        exact⟨hc.1.1,hc.2⟩
       rw[A11 hc,A11 hc2,A1D,A1Q]
     have hc2:¬ (k==NameKind.free&&env.kindOf x==some .cell)=true:=λq=>hc (by
      rw[A19] at q
      rw[A19,A19,hk]
      exact⟨⟨q.1,rfl⟩,q.2⟩)
     rw[A0Y hc,A0Y hc2,A1D,A1Q]
   rename_i hx
   have hx':(x==n)=false:=by simpa using hx
   by_cases hc:(j==NameKind.free&&env.scope.kind == .function&&env.kindOf n==some .cell)=true
   . rw[A11 hc,A1D,hx']
     exact ih h
   rw[A0Y hc,A1D,hx']
   exact ih h
theorem Hh {env:Env} {x:Str} {k:NameKind}:∀ {names:List (Str×NameKind)},
  (names.map λ(n,k)=>if(k==NameKind.free&&env.scope.kind == .function&&env.kindOf n==some .cell) then(n,NameKind.cell) else(n,k)).lookup x=some k ->
  ∃ j,names.lookup x=some j/\(k=j\/(j = .free/\k = .cell))
 | [],h=>by cases h
 | (n,j) :: r,h=>by
   have ih:=@Hh env x k r
   rw[A0X] at h
   dsimp only at h
   by_cases hc:(j==NameKind.free&&env.scope.kind == .function&&env.kindOf n==some .cell)=true
   . rw[A11 hc,A1D] at h
     have hj:j = .free:=by
      rw[A19,A19] at hc
      exact A1M.mp hc.1.1
     rw[A1D]
     split at h
     . rename_i hx
       cases h
       exact⟨j,rfl,.inr ⟨hj,rfl⟩⟩
     rename_i hx
     have hx':(x==n)=false:=by simpa using hx
     exact ih h
   rw[A0Y hc,A1D] at h
   rw[A1D]
   split at h
   . rename_i hx
     cases h
     exact⟨_,rfl,.inl rfl⟩
   rename_i hx
   have hx':(x==n)=false:=by simpa using hx
   exact ih h
structure CompS (X:Cx)(scope:Scope)(xs fr:List Str):Prop where
 kind:scope.kind = .function
 okind:X.env.scope.kind = .function
 uniq:(scope.names.map (·.1)).Nodup
 names:∀ y∈scope.names,y.2 = .local->scope.names.lookup y.1=some .local
 free:∀ y∈scope.names,y.2 = .free->X.env.kindOf y.1=some .cell\/X.env.kindOf y.1=some .free
 own:∀ x∈xs,scope.names.lookup x=some .local\/scope.names.lookup x=some .cell
 fre:∀ x∈fr,scope.names.lookup x=some .free
 nd:(xs++fr).Nodup
theorem Wb {X:Cx}{scope:Scope}{xs fr:List Str}(h:Vh X.env.scope scope xs fr=true):CompS X scope xs fr:=by
 unfold Vh at h
 simp only[Bool.and_eq_true,List.all_eq_true,bne_iff_ne,Bool.or_eq_true,beq_iff_eq,decide_eq_true_eq] at h
 obtain⟨⟨⟨⟨⟨⟨⟨⟨h1,h2⟩,h3⟩,h4⟩,h5⟩,h6⟩,h7⟩,h8⟩,h9⟩:=h
 exact⟨h1,h2,h3,λy hy e=>(h4 y hy).resolve_left (λq=>q e),λy hy e=>(h5 y hy).resolve_left (λq=>q e),h7,h8,h9⟩
def Po (σ:St)(js:List Nat):St:=js.map λj=>(σ[j]?).getD none
abbrev cxC (X:Cx)(scope:Scope)(xs fr:List Str)(C:Addr)(ex:List Addr)(s₀:Shared)(H₀:Hp):Cx:=
 { X with N:=xs++fr,env:=compEnvC scope (cellsFrom (C+1) scope.names (Lr X.env scope.names [])) C X.env,s₀:=s₀,H₀:=H₀,outer:=X.stack,ex:=ex,fn:=λx=>scope.names.lookup x==some .cell,pn:=[],xe:=λ_ _=>False }
section
variable {X:Cx}{scope:Scope}{xs fr:List Str}{pins:List (Addr×Obj)}{σ:St}{H:Hp}{s:Shared}{js:List Nat}{fp:List Addr}
theorem Tt {α:Type}{x:Str}{v:α}:∀ {l:List (Str×α)},(l.map (·.1)).Nodup->(x,v)∈l->l.lookup x=some v
 | [],_,h=>by cases h
 | (y,d) :: r,hn,h=>by
   obtain⟨h1,h2⟩:=A13.mp hn
   rw[A1D]
   rcases A0K.mp h with q | q
   . cases q
     rw[A1Q]
   have hne:(x==y)=false:=A0W.mpr λe=>h1 (e ▸ A0I.mpr ⟨(x,v),q,rfl⟩)
   rw[hne]
   exact Tt h2 q
theorem CompS.cells (S:CompS X scope xs fr)(ok:X.Ok):∀ y∈scope.names,y.2=NameKind.free->∃ c,X.env.cells.lookup y.1=some c:=λy hy e=>ok.has _ (S.free y hy e)
theorem ae0 (S:CompS X scope xs fr)(hjs:js.map (λj=>X.N[j]?)=fr.map some)(I:Inv X pins σ H s)(hfp:∀ b∈fp,Wk X pins H b)(hob:∀ b∈fp,∃ o,s.heap.get? b=some o){h':Heap}{t':Nat}
  (hn:h'.Ns s.heap.objs.size λ_=>none) (keep:∀ b o,s.heap.get? b=some o->h'.get? b=some o) (hcs:CellsOk h' (s.heap.objs.size+1) (cellsFrom (s.heap.objs.size+1) scope.names [])) :
  Inv (cxC X scope xs fr s.heap.objs.size fp s H) [] (List.replicate xs.length none++Po σ js) H { s with heap:=h',toks:=t' }:=by
 have hcl:=S.cells I.ok
 have sub:∀ x c,(Lr X.env scope.names []).lookup x=some c->X.env.cells.lookup x=some c:=λx c h=>W9 hcl (λq=>by cases q) h
 have hl:js.length=fr.length:=by have:=congrArg List.length hjs;rwa[A00,A00] at this
 have two:∀ x c,(cellsFrom (s.heap.objs.size+1) scope.names (Lr X.env scope.names [])).lookup x=some c->(x,c)∈cellsFrom (s.heap.objs.size+1) scope.names []\/(Lr X.env scope.names []).lookup x=some c:=λx c h=>by
  rw[Ee,A3O] at h
  cases e:(cellsFrom (s.heap.objs.size+1) scope.names []).lookup x with
  | some d=>
    rw[e] at h
    cases h
    exact .inl (Do e)
  | none=>
    rw[e] at h
    exact .inr h
 have oldc:∀ x c,X.env.cells.lookup x=some c->c<s.heap.objs.size:=λx c h=>let ⟨_,_,ho,_⟩:=I.cell x c h;A09 ho
 have newc:∀ x c,(x,c)∈cellsFrom (s.heap.objs.size+1) scope.names []->s.heap.objs.size<c:=λx c h=>(hcs.empty x c h).2
 refine⟨⟨I.ok.mod,S.kind,I.ok.glob,I.ok.blt,A07 _,λx y c h1 h2=>?_,λx hx=>?_,λx c hf h=>?_,I.ok.hd,I.ok.frames,.inl rfl,λb hb=>?_,λb o e=>I.bs b o e,A0L I.ok.bsz I.sz,λb o e hb=>?_,λb hb hb2=>?_,I.stack,I.stkFree⟩,
  rfl,I.bare,Un.kept keep,⟨_,hn,λi x v e1 e2 e3=>?_⟩,λx c h=>?_,I.hok.fresh (A07 _),λx c h=>?_,λp hp=>absurd (show p∈([]:List (Addr×Obj)) from hp) nofun,I.hok.kept keep,?_⟩
 . rcases two x c h1 with g1 | g1
   . rcases two y c h2 with g2 | g2
     . exact name_of_addr hcs.apart g1 g2
     exact absurd (oldc y c (sub y c g2)) (Nat.not_lt.mpr (A25 (newc x c g1)))
   rcases two y c h2 with g2 | g2
   . exact absurd (oldc x c (sub x c g1)) (Nat.not_lt.mpr (A25 (newc y c g2)))
   exact I.ok.inj x y c (sub x c g1) (sub y c g2)
 . -- the names that are cells there have one
   have hx:(relabel scope X.env).names.lookup x=some .cell\/(relabel scope X.env).names.lookup x=some .free:=hx
   have app:∀ c,(Lr X.env scope.names []).lookup x=some c\/(x,c)∈cellsFrom (s.heap.objs.size+1) scope.names []->∃ c,(cellsFrom (s.heap.objs.size+1) scope.names (Lr X.env scope.names [])).lookup x=some c:=λc h=>by
    rw[Ee,A3O]
    rcases h with h | h
    . cases (cellsFrom (s.heap.objs.size+1) scope.names []).lookup x with
      | some d=>exact⟨d,rfl⟩
      | none=>exact⟨c,h⟩
    obtain⟨d,hd⟩:=Oc h
    rw[hd]
    exact⟨d,rfl⟩
   have go:∀ k,(relabel scope X.env).names.lookup x=some k->(k = .cell\/k = .free)->∃ c,(cellsFrom (s.heap.objs.size+1) scope.names (Lr X.env scope.names [])).lookup x=some c:=λk e hk=>by
    obtain⟨j,hj,q⟩:=Hh (env:=X.env) (names:=scope.names) e
    have hm:=Do hj
    have hjf:j = .free\/j = .cell:=by
     rcases q with q | q
     . rcases hk with hk | hk
       . exact .inr (q ▸ hk)
       exact .inl (q ▸ hk)
     exact .inl q.1
    rcases hjf with hjf | hjf
    . subst hjf
      obtain⟨c,hc⟩:=Rk (env:=X.env) (x:=x) (names:=scope.names) (acc:=[]) (.inr hm)
      exact app c (.inl hc)
    subst hjf
    obtain⟨c,hc⟩:=Kn (n:=s.heap.objs.size+1) hm
    exact app c (.inr hc)
   rcases hx with hx | hx
   . exact go _ hx (.inl rfl)
   exact go _ hx (.inr rfl)
 . rcases two x c h with g | g
   . exact A25 (newc x c g)
   have hf':scope.names.lookup x=some .cell:=by simpa using hf
   obtain⟨d,hd⟩:=Kn (n:=s.heap.objs.size+1) (Do hf')
   have h':=h
   obtain⟨e,he⟩:=Oc hd
   have h':(cellsFrom (s.heap.objs.size+1) scope.names (Lr X.env scope.names [])).lookup x=some c:=h
   rw[Ee,A3O,he] at h'
   cases h'
   exact A25 (newc x _ (Do he))
 . obtain⟨f0,f1,f2,f3,f4,f5⟩:=hfp b hb
   obtain⟨o,ho⟩:=hob b hb
   refine⟨A0J (A09 ho),λx c h z=>?_⟩
   rcases two x c h with g | g
   . have h1:=newc x c g
     have h2:=A09 ho
     rw[<- z] at h2
     exact absurd h1 (Nat.not_lt.mpr (A25 h2))
   exact f4 x c (sub x c g) z
 . obtain⟨f0,f1,f2,f3,f4,f5⟩:=hfp b hb
   rcases f3 with f3 | f3
   . exact I.ok.noex b o e f3
   exact absurd (A0U (A09 (I.ok.bs b o e).1) f3) (A26 _)
 . obtain⟨f0,f1,f2,f3,f4,f5⟩:=hfp b hb
   rcases A0K.mp (I.stkSub b hb2) with z | z
   . exact f1 z
   exact f2 z
 . have e1:(xs++fr)[i]? = some x:=e1
   by_cases hi:i<xs.length
   . rw[A1B (by rw[A1N];exact hi),A3Y,A11 hi] at e2
     cases e2
   have hi':xs.length<=i:=Nat.le_of_not_lt hi
   rw[A2S hi'] at e1
   rw[A2S (by rw[A1N];exact hi'),A1N] at e2
   unfold Po at e2
   rw[A0A] at e2
   cases ej:js[i-xs.length]? with
   | none=>rw[ej] at e2;cases e2
   | some j=>
     rw[ej] at e2
     have e2':(σ[j]?).getD none=some v:=A0R e2
     have e4:σ[j]? = some (some v):=by
      cases q:σ[j]? with
      | none=>rw[q] at e2';cases e2'
      | some o=>rw[q] at e2';rw[show o=some v from e2']
     have e5:X.N[j]? = some x:=by
      have:=congrArg (λl=>l[i-xs.length]?) hjs
      rw[A0A,A0A,ej,e1] at this
      exact A0R this
     have hf:=S.fre x (A04 e1)
     have hk:=S.free _ (Do hf) rfl
     obtain⟨m,hm,hl'⟩:=I.loc
     obtain⟨u,r,lk⟩:=hl' j x v e5 e4 (.inr hk)
     refine⟨u,r,.inr ⟨?_,?_⟩⟩
     . have q:=Jr (scope:=scope) (env:=X.env) S.okind hf
       show(relabel scope X.env).names.lookup x=some .cell\/(relabel scope X.env).names.lookup x=some .free
       have q':(relabel scope X.env).names.lookup x=some (if(NameKind.free==NameKind.free&&X.env.kindOf x==some .cell) then .cell else .free):=q
       by_cases hc:(NameKind.free==NameKind.free&&X.env.kindOf x==some .cell)=true
       . rw[A11 hc] at q';exact .inl q'
       rw[A0Y hc] at q';exact .inr q'
     obtain⟨c',hc'⟩:=Rk (env:=X.env) (x:=x) (names:=scope.names) (acc:=[]) (.inr (Do hf))
     rcases lk with ⟨z,_⟩ | ⟨_,c,hc,ob,ho,hd⟩
     . rcases hk with hk | hk
       . rw[z] at hk;cases hk
       rw[z] at hk;cases hk
     have e6:c=c':=by
      have:=sub x c' hc'
      rw[hc] at this
      exact A0R this
     subst e6
     refine⟨_,?_,ob,keep _ _ ho,hd⟩
     show(cellsFrom (s.heap.objs.size+1) scope.names (Lr X.env scope.names [])).lookup x=some c
     rw [Ee,A3O]
     have none':(cellsFrom (s.heap.objs.size+1) scope.names []).lookup x=none:=by
      cases e:(cellsFrom (s.heap.objs.size+1) scope.names []).lookup x with
      | none=>rfl
      | some d=>
        have:=Tt S.uniq (L6 (Do e))
        rw[hf] at this
        cases this
     rw[none']
     exact hc'
 . rcases two x c h with g | g
   . exact⟨_,(hcs.empty x c g).1⟩
   obtain⟨v,ob,ho,hd⟩:=I.cell x c (sub x c g)
   exact⟨v,ob,keep _ _ ho,hd⟩
 . rcases two x c h with g | g
   . exact I.hok.fresh (A25 (newc x c g))
   exact I.freeC x c (sub x c g)
 show _=(xs++fr).length
 unfold Po
 rw[A0H,A0H,A1N,A00,hl]
theorem Z5 {M:Model}{A:Around}{E:Value->Shared->Prop}{s:Shared}{scope:Scope}{globals:Addr}{cl:List (Str×Addr)}{qual:Str}{env:Env}{Q:Env->Shared->Prop}
  (hQ:∀ h',h'.Ns s.heap.objs.size (λ_=>none)->(∀ b o,s.heap.get? b=some o->h'.get? b=some o)->CellsOk h' (s.heap.objs.size+1) (cellsFrom (s.heap.objs.size+1) scope.names []) ->
   Q (newEnv scope s.heap.objs.size globals (cellsFrom (s.heap.objs.size+1) scope.names cl) qual none .none (some env) builtinsNs) { s with heap:=h' }) :
  wpAny M A (newFunctionEnv scope globals cl [] qual none .none (some env)) Q E s:=by
 simp only[newFunctionEnv,Option.isSome_some,if_true]
 refine A01 (wpAny_alloc ?_)
 refine wpAny_bind (wpAny_layCells _ (λname kind cells=>by cases hkc:kind==NameKind.cell<;>simp[hkc]) _ _ _ _ ?_)
 have okc:=cellsFrom_ok scope.names (s.heap.push { cls:=.type "dict",data:=.dict #[] }) (s.heap.objs.size+1) [] ⟨λ_ _ hm=>(nomatch hm),List.Pairwise.nil⟩ (by rw[A1S];exact A07 _)
 rw[A1S] at okc
 rw[show({ s with heap:=s.heap.push { cls:=.type "dict",data:=.dict #[] } }:Shared).heap.objs.size=s.heap.objs.size+1 from A1S ..]
 rw[List.forIn_nil]
 exact A01 (A06 (A06 (hQ _ ((Heap.Ns.new s.heap (.type "dict")).keeps (pushCells_keeps _ _)) (λb o e=>pushCells_keeps _ _ b o (A02 _ e)) okc)))
theorem Zx {σ':St}{H':Hp}{s':Shared}{h'':Heap}(I:Inv X pins σ H s)(hfp:∀ b∈fp,Wk X pins H b)(J:Inv (cxC X scope xs fr s.heap.objs.size fp s H) [] σ' H' s')(hs:Heap.SameBut s.heap.objs.size s'.heap h'') :
  Inv X pins σ H' { s' with heap:=h'' }:=by
 have old:∀ b o,s.heap.get? b=some o->b≠s.heap.objs.size:=λb o e=>A0J (A09 e)
 have ub:Un (frs X.stack) fp H H' s.heap s'.heap:=J.base
 refine I.call' (s':={ s' with heap:=h'' }) (ch:=fp) J.os ⟨λb o e n hb hx=>(hs.2 b (old b o e)).trans (ub.keep b o e n hb hx),λb o e n hb hx=>?_,ub.free,λb o e hx=>?_,ub.tups,ub.frzs,ub.tbls⟩ (λb o e=>?_) J.bare λb hb=>?_
 . obtain⟨sl,e1⟩:=ub.slot b o e n hb hx
   exact⟨sl,(hs.2 b (old b o e)).trans e1⟩
 . obtain⟨o',e1⟩:=ub.there b o e hx
   exact⟨o',(hs.2 b (old b o e)).trans e1⟩
 . have hf:H' s.heap.objs.size=none:=J.free
   refine(J.hok b o e).stay (λc v hc q=>(hs.2 c ?_).trans q) (λ_ q=>q) λ_ _ q=>q
   intro z
   rcases hc with hc | hc
   . rw[<- hc,z,hf] at e;cases e
   rw[z,hf] at hc;cases hc
 obtain⟨f0,f1,f2,f3,f4,f5⟩:=hfp b hb
 exact⟨f3,f1,f4,f5⟩
def PIf (X:Cx)(ifs:List Expr)(t:TT):Prop:=
 ∀(pins:List (Addr×Obj)) (s:Shared) (σ:St) (H:Hp) (Q:Bool->Hp->Prop) (E:Value->Shared->Prop),(∀ e s',X.xe e s'->E e s')->Inv X pins σ H s->t σ H Q ->
  wpAny (model X.prog X.w) X.A (forIn ifs true λc r=>if r=true then do let ok <- isTrue c X.env (eval c X.env);pure (ForInStep.yield ok) else pure (ForInStep.yield r)) (TP X pins σ Q) E s
def aa2:TT:=λ_ H Q=>Q true H
theorem G2:PIf X [] aa2:=λ_ _ _ H _ _ _ I h=>wpAny_tests_nil ⟨H,I,h⟩
theorem Qo {c:Expr}{t:TT}(hc:PT X c t):PIf X [c] t:=λpins s σ H Q _ hE I h=>wpAny_tests_one (A1O (hc pins s σ H Q I h) (λ_ _ z=>z) hE)
def ao6 (k:Nat)(js:List Nat)(wi:TI)(g:TG)(tt:TT)(te:TE):TE:=fun σ H Q=>wi σ H λJ H1=>∀ p,H1 p=none ->
 ∃ W:Nat->Nat->Hp->Prop,(∃ m,W 0 m (upd H1 p (.lst [])))/\∀ i m H,W i m H ->
  (J.stop i H/\Q (.ref p) H)\/(J.go i H/\∃ N:Hp->Prop,(∀ H',N H'->∃ m',m'<m/\W (i+1) m' H') /\
   ∀ x H',J.yld i H x H'->g x (List.replicate k none++Po σ js) H' fun σ2 H2=>tt σ2 H2 λb H3=>
    if b=true then te σ2 H3 λy H4=>∃ acc,H4 p=some (.lst acc)/\acc.length<sizeLine/\N (upd H4 p (.lst (acc++[y]))) else N H3)
theorem Yh {tg elt iter:Expr}{ifs:List Expr}{pos:Pos}{it acc:Value}{env:Env}{A:Around}{R:Result->Shared->Prop}{s:Shared}{P:Program}{w:World}(I:Nat->Shared->Prop)
  (turn:∀ n s,I n s->wpAny (model P w) A (pyNext it) (λr s₁=>match r with
   | none=>R (.ok .next) s₁
   | some v=>wpAny (model P w) A (letOwnedTupleGo tg it v) (λ_ s₁'=>wpAny (model P w) A (assign tg env v) (λ_ s₂=>
     wpAny (model P w) A (forIn ifs true λc r=>if r=true then do let ok <- isTrue c env (eval c env);pure (ForInStep.yield ok) else pure (ForInStep.yield r)) (λok s₃=>
      if ok=true then wpAny (model P w) A (eval elt env) (λx s₄=>
       wpAny (model P w) A (call (.builtin "list.append") [acc,x]) (λ_ s₅=>∃ m,m<n/\I m s₅) (λ_ _=>False) s₄) (λ_ _=>False) s₃
      else ∃ m,m<n/\I m s₃) (λ_ _=>False) s₂) (λ_ _=>False) s₁') (λ_ _=>False) s₁) (λ_ _=>False) s)
  (n:Nat) (h:I n s):codeAny (model P w) A (.compLoop (.ListComp elt [⟨tg,iter,ifs,0⟩] scope pos) 0 it acc env) R s:=by
 refine codeAny_loop rfl I (λn s hI=>?_) n h
 show wpAny _ A ((compTurn (.ListComp elt [⟨tg,iter,ifs,0⟩] scope pos) 0 it acc env).onRaise (λx=>do noteFrame x env;theTreesLotGoes x)) _ _ s
 refine wpAny_noted ?_
 rw [compTurn_list]
 refine A01 (A3X (A01 (A1O (turn n s hI) (λr s₁ h₁=>?_) λ_ _ h'=>h'.elim)))
 cases r with
 | none=>exact A06 h₁
 | some v=>
   refine A01 (A1O h₁ (λ_ s₁' h₁'=>?_) λ_ _ h'=>h'.elim)
   refine A01 (A1O h₁' (λ_ s₂ h₂=>A01 (A1O h₂ (λok s₃ h₃=>?_) λ_ _ h'=>h'.elim)) λ_ _ h'=>h'.elim)
   cases ok with
   | false=>exact A06 ⟨rfl,h₃⟩
   | true=>
     exact A01 (A01 (A1O h₃ (λx s₄ h₄=>A01 (A1O h₄ (λ_ s₅ h₅=>A06 (A06 ⟨rfl,h₅⟩)) λ_ _ h'=>h'.elim)) λ_ _ h'=>h'.elim))
def Z1 (n:Nat)(g:TG):Prop:=∀ x σ H Q,g x σ H Q->g x σ H fun σ' H'=>(∀ k,n<=k->σ'[k]? = σ[k]?)/\Q σ' H'
def Vc (n:Nat)(g:TGs):Prop:=∀ vs σ H Q,g vs σ H Q->g vs σ H fun σ' H'=>(∀ k,n<=k->σ'[k]? = σ[k]?)/\Q σ' H'
theorem Ed {n i:Nat}(h:i<n):Z1 n (Jv i):=λx σ H Q q=>⟨λk hk=>A1R (by omega),q⟩
theorem av8 {n:Nat}:Vc n aq6:=λvs σ H Q ⟨e,q⟩=>⟨e,λ_ _=>rfl,q⟩
theorem Xr {n i:Nat}{u:TGs}(h:i<n)(hu:Vc n u):Vc n (Pi (Jv i) u):=λvs σ H Q ⟨v,r,e,q⟩=>by
 refine⟨v,r,e,?_⟩
 have q':u r (σ.set i (some v)) H Q:=q
 show u r (σ.set i (some v)) H _
 have z:=hu _ _ _ _ q'
 have e2:(λ(σ':St) (H':Hp)=>(∀ k,n<=k->σ'[k]? = (σ.set i (some v))[k]?)/\Q σ' H')=fun σ' H'=>(∀ k,n<=k->σ'[k]? = σ[k]?)/\Q σ' H':=by
  funext σ' H'
  have e3:(∀ k,n<=k->σ'[k]? = (σ.set i (some v))[k]?) = ∀ k,n<=k->σ'[k]? = σ[k]?:=by
   refine propext ⟨λf k hk=>?_,λf k hk=>?_⟩
   . rw[f k hk,A1R (by omega)]
   rw[f k hk,A1R (by omega)]
  rw[e3]
 rw[e2] at z
 exact z
theorem as1 {K:PySem.W.Frag}{n m:Nat}{u:TGs}(hu:Vc n u):Z1 n (al7 K m u):=λx σ H Q ⟨a,xs,e,hq,hl,q⟩=>⟨a,xs,e,hq,hl,hu _ _ _ _ q⟩
theorem Vi {tg elt iter:Expr}{ifs:List Expr}{pos:Pos}{g:TG}{tt:TT}{te:TE}(hc:X.calm=true)(S:CompS X scope xs fr)(hjs:js.map (λj=>X.N[j]?)=fr.map some)
  (hg:∀ C ex s₀ H₀,PG (cxC X scope xs fr C ex s₀ H₀) tg g) (hk:Z1 xs.length g) (hi:∀ C ex s₀ H₀,PIf (cxC X scope xs fr C ex s₀ H₀) ifs tt) (he:∀ C ex s₀ H₀,PE (cxC X scope xs fr C ex s₀ H₀) elt te)
  {s2:Shared} {H1:Hp} {R:Value->Addr->Result->Shared->Prop} {Q:VK} {it:Addr} {tn:Nat->Heap->Prop} {J:It} (I:Inv X pins σ H1 s2) (T:aa7 X.prog X.w X.K tg J fp it tn) (st:tn 0 s2.heap) (hfp:∀ b∈fp,Wk X pins H1 b)
  (hq:∀ p,H1 p=none->∃ W:Nat->Nat->Hp->Prop,(∃ m,W 0 m (upd H1 p (.lst [])))/\∀ i m H,W i m H ->
   (J.stop i H/\Q (.ref p) H)\/(J.go i H/\∃ N:Hp->Prop,(∀ H',N H'->∃ m',m'<m/\W (i+1) m' H') /\
    ∀ x H',J.yld i H x H'->g x (List.replicate xs.length none++Po σ js) H' fun σ2 H2=>tt σ2 H2 λb H3=>
     if b=true then te σ2 H3 λy H4=>∃ acc,H4 p=some (.lst acc)/\acc.length<sizeLine/\N (upd H4 p (.lst (acc++[y]))) else N H3))
  (hR:∀(p C:Addr) (s':Shared) (H':Hp),(∃ m,s'.heap.Ns C m)->Wk X pins H' C->Inv X pins σ H' s'->Q (.ref p) H'->R (.ref p) C (.ok .next) s') :
  wpAny (model X.prog X.w) X.A (newList []) (λacc s₃=>wpAny (model X.prog X.w) X.A (newFunctionEnv scope X.env.globals (Lr X.env scope.names []) [] X.env.qual none .none (some X.env)) (λcenv s₄=>
   codeAny (model X.prog X.w) X.A (.compStart (.ListComp elt [⟨tg,iter,ifs,0⟩] scope pos) 0 (.ref it) acc { cenv with scope:=relabel scope X.env }) (R acc cenv.locals) s₄) X.xe s₃) X.xe s2:=by
 refine A23 ?_ (by show 0<=sizeLine;exact A3J _)
 have hn0:H1 s2.heap.objs.size=none:=I.hok.fresh (A07 _)
 have I3:Inv X pins σ (upd H1 s2.heap.objs.size (.lst [])) { s2 with heap:=s2.heap.push { cls:=.type "list",data:=.seq ([]:List Value).toArray } }:=I.laid (t':=s2.toks) (λb u e=>A02 _ e) (A07 _) ⟨A3J _,[],0,.nil,A0E _ rfl⟩
 obtain⟨W,⟨m0,w0⟩,turn⟩:=hq _ hn0
 have hob:∀ b∈fp,∃ o,s2.heap.get? b=some o:=λb hb=>let ⟨o,e,_⟩:=T.obj _ _ st b hb;⟨o,e⟩
 have hfp3:∀ b∈fp,Wk X pins (upd H1 s2.heap.objs.size (.lst [])) b:=λb hb=>by
  obtain⟨f0,f⟩:=hfp b hb
  obtain⟨o,e⟩:=hob b hb
  exact⟨by rw[Au (A0J (A09 e))];exact f0,f⟩
 have hob3:∀ b∈fp,∃ o,(s2.heap.push { cls:=.type "list",data:=.seq ([]:List Value).toArray }).get? b=some o:=λb hb=>let ⟨o,e⟩:=hob b hb;⟨o,A02 _ e⟩
 have st3:tn 0 (s2.heap.push { cls:=.type "list",data:=.seq ([]:List Value).toArray }):=T.keep _ _ _ st λb _ o e=>A02 _ e
 generalize hs3:({ s2 with heap:=s2.heap.push { cls:=.type "list",data:=.seq ([]:List Value).toArray } }:Shared)=s3 at I3 ⊢
 have st3':tn 0 s3.heap:=by rw[<- hs3];exact st3
 have hob3':∀ b∈fp,∃ o,s3.heap.get? b=some o:=by rw[<- hs3];exact hob3
 generalize hH3:upd H1 s2.heap.objs.size (.lst [])=H3 at I3 hfp3 w0
 generalize hp0:s2.heap.objs.size=p0 at turn ⊢
 refine Z5 λh₁ hns₁ hkp₁ hco₁=>?_
 have I4:=ae0 (t':=s3.toks) S hjs I3 hfp3 hob3' hns₁ hkp₁ hco₁
 have st4:tn 0 h₁:=T.keep _ _ _ st3' λb hb o e=>hkp₁ b o e
 have loop:∀ s₄:Shared,Inv (cxC X scope xs fr s3.heap.objs.size fp s3 H3) [] (List.replicate xs.length none++Po σ js) H3 s₄->tn 0 s₄.heap ->
   codeAny (model X.prog X.w) X.A (.compLoop (.ListComp elt [⟨tg,iter,ifs,0⟩] scope pos) 0 (.ref it) (.ref p0) (compEnvC scope (cellsFrom (s3.heap.objs.size+1) scope.names (Lr X.env scope.names [])) s3.heap.objs.size X.env)) (R (.ref p0) s3.heap.objs.size) s₄:=by
  intro s₄ I4 st4
  have stat:∀ {H':Hp},(∀ b∈fp,H' b=none)->∀ b∈fp,Wk (cxC X scope xs fr s3.heap.objs.size fp s3 H3) [] H' b:=fun {H'} hn b hb=>by
   obtain⟨f0,f1,f2,f3,f4,f5⟩:=hfp3 b hb
   obtain⟨o,e⟩:=hob3' b hb
   refine⟨hn b hb,A0J (A09 e),I4.ok.exfs b hb,.inl hb,λx c h=>(I4.ok.exf b hb).2 x c h,λp hp=>absurd (show p∈([]:List (Addr×Obj)) from hp) nofun⟩
  refine Yh (λn s'=>∃ i H',Inv (cxC X scope xs fr s3.heap.objs.size fp s3 H3) [] (List.replicate xs.length none++Po σ js) H' s'/\tn i s'.heap/\(∀ b∈fp,H' b=none)/\W i n H') ?_ m0 ⟨0,H3,I4,st4,λb hb=>(hfp3 b hb).1,w0⟩
  rintro n s5 ⟨i,H5,I5,st5,fr5,w5⟩
  rcases turn i n H5 w5 with ⟨stop,qn⟩ | ⟨go,N,hN,step⟩
  . refine thn (T.done (cxC X scope xs fr s3.heap.objs.size fp s3 H3) rfl rfl rfl hc i [] s5 _ H5 (λ_ _=>False) I5 (stat fr5) st5 stop) λr s6 ⟨hr,I6⟩=>?_
    subst hr
    obtain⟨m6,n6,_⟩:=id I6.loc
    exact hR p0 s3.heap.objs.size s6 H5 ⟨m6,n6⟩ (I3.fpOk (A07 _) I6.free) (Zx I3 hfp3 I6 (Heap.SameBut.refl ..)) qn
  refine thn (T.item (cxC X scope xs fr s3.heap.objs.size fp s3 H3) rfl rfl rfl hc i [] s5 _ H5 (λ_ _=>False) I5 (stat fr5) st5 go) λr s6 ⟨u,hr,h6⟩=>?_
  subst hr
  refine thn h6 λ_ s7 ⟨x,H7,I7,r7,y7,st7,fr7⟩=>?_
  have I7':=I7.pinned (stat fr7) (T.obj _ _ st7)
  refine thn (hg _ _ _ _ _ s7 _ H7 x u _ I7' r7 (hk _ _ _ _ (step x H7 y7))) λ_ s8 ⟨σ8,H8,I8,kp8,q8⟩=>?_
  have again:∀ {s9:Shared} {H9:Hp},Inv (cxC X scope xs fr s3.heap.objs.size fp s3 H3) ([]++Tc fp s7.heap) σ8 H9 s9->N H9 ->
    ∃ m,m<n/\∃ i H',Inv (cxC X scope xs fr s3.heap.objs.size fp s3 H3) [] (List.replicate xs.length none++Po σ js) H' s9/\tn i s9.heap/\(∀ b∈fp,H' b=none)/\W i m H':=fun {s9 H9} I9 n9=>by
   obtain⟨m',hm,w9⟩:=hN H9 n9
   refine⟨m',hm,i+1,H9,I9.unpinned.weak ?_ ?_,T.keep _ _ _ st7 λb hb o e=>(I9.pin (b,o) (A0M _ (A0M _ (Jk hb e)))).1,λb hb=>?_,w9⟩
   . rw[I9.len,I5.len]
   . intro k v hkv
     by_cases hx:k<xs.length
     . rw[A1B (by rw[A1N];exact hx),A3Y,A11 hx] at hkv
       cases hkv
     rw[kp8 k (Nat.le_of_not_lt hx)]
     exact hkv
   obtain ⟨o,e,d⟩:=T.obj _ _ st7 b hb
   exact(I9.pin (b,o) (A0M _ (A0M _ (Jk hb e)))).2.1
  refine A1O (hi _ _ _ _ _ s8 σ8 H8 _ (λ_ _=>False) (λ_ _ z=>z) I8 q8) (λok s9 ⟨H9,I9,q9⟩=>?_) λ_ _ z=>z
  cases ok with
  | false=>
    rw[A0Y A0D]
    rw[A0Y A0D] at q9
    exact again I9 q9
  | true=>
    rw[A11 rfl]
    rw[A11 rfl] at q9
    refine thn (he _ _ _ _ _ s9 σ8 H9 _ I9 q9) λuy s10 ⟨y,H10,I10,r10,acc,hacc,hz,n10⟩=>?_
    refine thn (Bg _ s10 σ8 H10 (.ref p0) [y] (.ref p0) [uy] (λ_ H11=>N H11) I10 rfl (.cons r10 .nil) ⟨p0,acc,y,rfl,rfl,hacc,hz,n10⟩) λ_ s11 ⟨_,H11,I11,_,n11⟩=>?_
    exact again I11 n11
 exact codeAny_compStart_list (loop _ I4 st4) (T.self _ _ _ _ _ st4 (loop _ I4 st4))
theorem Inv.letgo {C:Addr}{h'':Heap}(I:Inv X pins σ H s)(f:Wk X pins H C)(hs:Heap.SameBut C s.heap h''):Inv X pins σ H { s with heap:=h'' }:=by
 obtain⟨f0,f1,f2,f3,f4,f5⟩:=f
 exact I.turned (t':=s.toks) (λb o hb e=>(hs.2 b hb).trans e) f0 f1 f3 f4 f5
theorem Eu {tg elt iter:Expr}{ifs:List Expr}{pos:Pos}{wi:TI}{g:TG}{tt:TT}{te:TE}(xs fr:List Str)(js:List Nat)(hc:X.calm=true)(hS:Vh X.env.scope scope xs fr=true)(hjs:js.map (λj=>X.N[j]?)=fr.map some)(hw:PI X tg iter wi)
  (hg:∀ C ex s₀ H₀,PG (cxC X scope xs fr C ex s₀ H₀) tg g) (hk:Z1 xs.length g) (hi:∀ C ex s₀ H₀,PIf (cxC X scope xs fr C ex s₀ H₀) ifs tt) (he:∀ C ex s₀ H₀,PE (cxC X scope xs fr C ex s₀ H₀) elt te)
  (hs:∀ x,foldedSetIterable iter X.env x=pure x:=by intro _;ac_nf) :
  PE X (.ListComp elt [⟨tg,iter,ifs,0⟩] scope pos) (ao6 xs.length js wi g tt te):=by
 intro pins s σ H Q I h
 have S:=Wb hS
 rw[eval_ListComp]
 refine wpAny_comprehension_free (use:=none) rfl hs (Qb (S.cells I.ok)) S.kind S.names ?_
 refine thn (hw pins s σ H _ I h) λv s1 h1=>thn h1 λitv s2 h2=>?_
 obtain⟨it,fp,tn,J,H2,e,I2,T,st2,f2,q2⟩:=h2
 subst e
 refine Vi (Q:=Q) (R:=λacc C=>compPost (model X.prog X.w) X.A X.xe none (EP X pins σ Q) acc C) hc S hjs hg hk hi he I2 T st2 f2 q2 ?_
 intro p C s' H' ⟨m,hn⟩ fC hI q
 exact⟨m,hn,λh'' hs''=>⟨.ref p,H',hI.letgo fC hs'',rfl,q⟩⟩
theorem Qd {tg elt iter:Expr}{ifs:List Expr}{pos spos py:Pos}{wi:TI}{g:TG}{tt:TT}{te:TE}{i:Nat}{y:Str}(xs fr:List Str)(js:List Nat)(hc:X.calm=true)(hS:Vh X.env.scope scope xs fr=true)(hjs:js.map (λj=>X.N[j]?)=fr.map some)
  (hN:X.N.Nodup) (hi':X.N[i]? = some y) (hy:X.env.scope.names.lookup y=some .local) (hw:PI X tg iter wi)
  (hg:∀ C ex s₀ H₀,PG (cxC X scope xs fr C ex s₀ H₀) tg g) (hk:Z1 xs.length g) (hi:∀ C ex s₀ H₀,PIf (cxC X scope xs fr C ex s₀ H₀) ifs tt) (he:∀ C ex s₀ H₀,PE (cxC X scope xs fr C ex s₀ H₀) elt te)
  (hsw:swapsWith (.ListComp elt [⟨tg,iter,ifs,0⟩] scope pos) (some (.Name y py)) spos.line X.env=pure true:=by ac_nf)
  (hs:∀ x,foldedSetIterable iter X.env x=pure x:=by intro _;ac_nf) :
  PS X (.Assign [.Name y py] (.ListComp elt [⟨tg,iter,ifs,0⟩] scope pos) spos) (aq8 (ao6 xs.length js wi g tt te) (Jv i)):=by
 intro pins s σ H D I h
 have S:=Wb hS
 rw[exec_Assign_Name_used _ _ _ _ hsw]
 refine A01 (A3X (A01 ?_))
 show wpAny _ X.A (do let _ <- comprehension (.ListComp elt [⟨tg,iter,ifs,0⟩] scope pos) scope X.env _ (newList []) false (eval iter X.env) (some (assign (.Name y py) X.env))) _ _ s
 refine A01 (A1O (wpAny_comprehension_free (use:=some (assign (.Name y py) X.env)) (Q:=λ_ s'=>SP X pins D .next s') rfl hs (Qb (S.cells I.ok)) S.kind S.names ?_) (λ_ s' hq=>A06 (A06 hq)) λ_ _ e=>e)
 refine thn (hw pins s σ H _ I h) λv s1 h1=>thn h1 λitv s2 h2=>?_
 obtain⟨it,fp,tn,J,H2,e,I2,T,st2,f2,q2⟩:=h2
 subst e
 refine Vi (Q:=λx H1=>Jv i x σ H1 D.nx) (R:=λacc C=>compPost (model X.prog X.w) X.A X.xe (some (assign (.Name y py) X.env)) (λ_ s'=>SP X pins D .next s') acc C) hc S hjs hg hk hi he I2 T st2 f2 q2 ?_
 intro p C s' H' ⟨m,hn⟩ fC I' q
 show wpAny _ X.A (assign (.Name y py) X.env (.ref p)) _ _ s'
 refine wpAny_assign_Name (Tw I' hN hi' (.inl hy) (show RelV (.ref p) (.ref p) from rfl) (λs'' I'' ⟨a,hs1,ha⟩=>?_) (.inr hy))
 have hne:C≠a:=by
  rcases ha with ha | ha
  . rw[ha];exact fC.2.1
  exact(fC.2.2.2.2.1 y a ha).symm
 exact⟨m,hn.sameBut hs1 hne,λh'' hs''=>⟨_,H',I''.letgo fC hs'',q⟩⟩
end
def Its (x:Str):It:=⟨λi _=>i<x.cps.size,λi H v H'=>H'=H/\∃ c,x.cps[i]? = some c/\v = .str ⟨#[c]⟩,λi _=>x.cps.size<=i⟩
section
variable {X:Cx}{tg:Expr}
theorem Xw {P:Program}{w:World}{K:PySem.W.Frag}{tg:Expr}{it:Addr}{n:Nat}{PV:Nat->Value->Prop}{val:Nat->V->Prop}{St:Nat->Heap->Prop}(W:∀ A:Around,A.handled=none->Walks P w A it [it] [it] n PV St)
  (hself:∀(A:Around) (i:Nat) (s:Shared) (Q:Value->Shared->Prop) (E:Value->Shared->Prop),St i s.heap->Q (.ref it) s->wpAny (model P w) A (pyIter (.ref it)) Q E s)
  (hv:∀ i u,PV i u->∃ v,RelV v u/\val i v) (hto:∀ i h,St i h->∃ o T vs,h.get? it=some o/\o.cls = .type T/\o.data = .fields vs/\["enumerate","zip","dict_itemiterator","dict_reverseitemiterator","odict_iterator","itertools.zip_longest","itertools.pairwise"].contains T=false) :
  aa7 P w K tg ⟨λi _=>i<n,λi H v H'=>H'=H/\val i v,λi _=>n<=i⟩ [it] it (λi h=>St i h/\i<=n) where
 mem:=by simp
 obj:=λi h st b hb=>by
  have e:b=it:=by simpa using hb
  subst e
  obtain⟨o,T,vs,e1,e2,e3,e4⟩:=hto i h st.1
  exact⟨o,e1,λv z=>by rw[e3] at z;cases z⟩
 keep:=λi h h' st k=>⟨(W { handled:=none } rfl).frame i h h' st.1 k,st.2⟩
 item:=by
  intro X hP hw hK hc i pins s σ H E I hf st hg
  subst hP hw hK
  obtain⟨f0,f1,f2,f3,f4,f5⟩:=hf it nofun
  refine(W X.A (I.ok.hd hc)).item i s _ _ hg st.1 λu h' tk hp st' kk=>?_
  obtain⟨v,rv,vv⟩:=hv i u hp
  have I1:Inv X pins σ H { s with heap:=h',toks:=tk }:=I.turned (λb o hb e=>kk b o (by simpa using hb) e) f0 f1 f3 f4 f5
  obtain⟨o,T,vs,e1,e2,e3,e4⟩:=hto _ _ st'
  exact⟨u,rfl,a03 (s:={ s with heap:=h',toks:=tk }) e1 e2 e3 e4 ⟨v,H,I1,rv,⟨rfl,vv⟩,⟨st',hg⟩,λb hb=>(hf b hb).1⟩⟩
 done:=by
  intro X hP hw hK hc i pins s σ H E I hf st hg
  subst hP hw hK
  obtain⟨f0,f1,f2,f3,f4,f5⟩:=hf it nofun
  have e:i=n:=Nat.le_antisymm st.2 hg
  subst e
  exact(W X.A (I.ok.hd hc)).done s _ _ st.1 λh' tk kk=>⟨rfl,I.turned (λb o hb e=>kk b o (by simpa using hb) e) f0 f1 f3 f4 f5⟩
 self:=λA i s Q E st h=>hself A i s Q E st.1 h
theorem at6 {pins:List (Addr×Obj)}{σ:St}{H1:Hp}{s1:Shared}{R:It->Hp->Prop}{E:Value->Shared->Prop}{z:Str}{v:Value}(I1:Inv X pins σ H1 s1)(r1:RelV (.str z) v)(q:R (Its z) H1):wpAny (model X.prog X.w) X.A (pyIter v) (PIE X pins σ tg R) E s1:=by
 obtain⟨t,rfl⟩:=r1
 have sv:∀ i u,SignAt z i u->∃ v,RelV v u/\∃ c,z.cps[i]? = some c/\v = .str ⟨#[c]⟩:=λi u ⟨c,tu,hc,hu⟩=>⟨.str ⟨#[c]⟩,⟨tu,hu⟩,c,hc,rfl⟩
 have fin:∀(o:Obj) (St:Nat->Heap->Prop) (n:Nat),St 0 (s1.heap.push o)->aa7 X.prog X.w X.K tg (Its z) [s1.heap.objs.size] s1.heap.objs.size (λi h=>St i h/\i<=z.cps.size)->PIE X pins σ tg R (.ref s1.heap.objs.size) { s1 with heap:=s1.heap.push o }:=λo St n h0 T=>by
  refine⟨s1.heap.objs.size,[s1.heap.objs.size],_,_,H1,rfl,I1.kept (t':=s1.toks) λb ob e=>A02 _ e,T,⟨h0,A3J _⟩,λb hb=>?_,q⟩
  have e:b=s1.heap.objs.size:=by simpa using hb
  subst e
  exact I1.fpOk (A07 _) (I1.hok.fresh (A07 _))
 cases ha:z.cps.all (· < 128)
 . exact wpAny_pyIter_wide ha (fin _ _ 0 ⟨_,A0E _ rfl,rfl,rfl⟩ (Xw (λA hA=>Walks.strWide hA _ z t) (λ_ _ _ _ _ st hq=>wpAny_pyIter_striter_wide st hq) sv λi h ⟨o,ho,hc,hd⟩=>⟨o,_,_,ho,hc,hd,by decide⟩))
 exact wpAny_pyIter_ascii ha (fin _ _ 0 ⟨_,A0E _ rfl,rfl,rfl⟩ (Xw (λA hA=>Walks.strAscii hA _ z t) (λ_ _ _ _ _ st hq=>wpAny_pyIter_striter_ascii st hq) sv λi h ⟨o,ho,hc,hd⟩=>⟨o,_,_,ho,hc,hd,by decide⟩))
end
section
variable {X:Cx}
def aH6:V->Option Int->Option Int->Hp->VK->Prop:=λx lo hi H Q=>∃ z,x = .str z/\z.length<=sizeLine/\Q (.str (Txt.slice z lo hi)) H
theorem sl_str:SlR X aH6:=by
 intro pins s σ H x v vl vu lo hi sl Q I rx hs pl pu h
 obtain⟨z,rfl,hz,q⟩:=h
 obtain⟨t,rfl⟩:=rx
 have fin:∀ t' k,EP X pins σ Q (.str (Txt.slice z lo hi) t') { s with toks:=k }:=λt' k=>⟨.str _,H,I.tok _,⟨_,rfl⟩,q⟩
 have sz:=A0L (Txt.slice_le z lo hi) hz
 refine⟨"str",_,F.slot_str_getitem.lookup,typeIs_str _ _ _,?_⟩
 cases pl with
 | none=>
   cases pu with
   | none=>exact A30 (l:=none) (u:=none) (st:=none) hs rfl (A4C ⟨sz,fin⟩)
   | int j uj=>exact A30 (l:=none) (u:=some (j,uj)) (st:=none) hs rfl (A4C ⟨sz,fin⟩)
 | int i ui=>
   cases pu with
   | none=>exact A30 (l:=some (i,ui)) (u:=none) (st:=none) hs rfl (A4C ⟨sz,fin⟩)
   | int j uj=>exact A30 (l:=some (i,ui)) (u:=some (j,uj)) (st:=none) hs rfl (A4C ⟨sz,fin⟩)
theorem Wt:CallR X (.builtin "repr") (λxs H Q=>(∃ b,xs=[.bl b]/\Q (.str (if b then "True" else "False")) H)\/(xs=[.non]/\Q (.str "None") H)):=by
 intro pins s σ H xs us Q I r h
 rcases h with ⟨b,rfl,q⟩ | ⟨rfl,q⟩
 . obtain⟨u,rfl,ru⟩:=Km r
   cases ru
   exact PySem.P.repr_of_bool ⟨.str _,H,I.tok _,⟨_,rfl⟩,q⟩
 obtain⟨u,rfl,ru⟩:=Km r
 cases ru
 exact PySem.P.repr_of_none ⟨.str _,H,I.tok _,⟨_,rfl⟩,q⟩
theorem call_isinst:CallR X (.builtin "isinstance") (λxs H Q=>∃ x c t b,xs=[x,.ty c]/\TyOf X.K H x t/\PySem.W.kitOne X.K t (.type c)=some b/\Q (.bl b) H):=by
 intro pins s σ H xs us Q I r h
 obtain⟨x,c,t,b,rfl,ty,e,q⟩:=h
 obtain⟨u,w',rfl,r1,r2⟩:=Tn r
 cases r2
 exact Ts I r1 ty e λtk=>⟨.bl _,H,I.tok _,rfl,q⟩
theorem call_isinstR:CallR X (.builtin "isinstance") (λxs H Q=>∃ x c t b,xs=[x,.ref c]/\TyOf X.K H x t/\PySem.W.kitOne X.K t (.ref c)=some b/\Q (.bl b) H):=by
 intro pins s σ H xs us Q I r h
 obtain⟨x,c,t,b,rfl,ty,e,q⟩:=h
 obtain⟨u,w',rfl,r1,r2⟩:=Tn r
 cases r2
 exact Ts I r1 ty e λtk=>⟨.bl _,H,I.tok _,rfl,q⟩
theorem Tv:CallR X (.builtin "isinstance") (λxs H Q=>∃ a ys c b,xs=[V.ref a,.ty c]/\((SqT X.K H a ys/\PySem.W.kitOne X.K (.type "tuple") (.type c)=some b)\/(SqL X.K H a ys/\PySem.W.kitOne X.K (.type "list") (.type c)=some b))/\Q (.bl b) H):=by
 intro pins s σ H xs us Q I r h
 obtain⟨a,ys,c,b,rfl,ty,q⟩:=h
 obtain⟨u,w',rfl,r1,r2⟩:=Tn r
 cases r2
 cases r1
 rcases ty with ⟨ty,e⟩ | ⟨ty,e⟩
 . obtain⟨its,_,p,_⟩:=I.tuple ty
   obtain⟨o,h1,h2,_⟩:=p
   exact A1A A4R I.kIn ⟨o,h1,h2⟩ e (λz=>nomatch z) λtk=>⟨.bl _,H,I.tok _,rfl,q⟩
 obtain⟨its,_,p,_⟩:=I.list ty
 obtain⟨o,h1,h2,_⟩:=p.isList
 exact A1A A3S I.kIn ⟨o,h1,h2⟩ e (λz=>nomatch z) λtk=>⟨.bl _,H,I.tok _,rfl,q⟩
theorem a85 {bs:List Bool}{its:List Value}(r:Vals (bs.map V.bl) its)(i:Nat)(v:Value)(h:its[i]? = some v):∃ b,bs[i]? = some b/\v = .bool b:=by
 have hl:=r.length
 have hi:i<its.length:=(A03.mp h).1
 have hb:i<bs.length:=by rw[A00] at hl;omega
 obtain⟨u,hu,ru⟩:=r.get (i:=i) (x:=.bl bs[i]) (by rw[A0A,A08 hb];rfl)
 rw[h] at hu
 cases hu
 exact⟨bs[i],A08 hb,ru⟩
theorem a62 (bs:List Bool):(List.range bs.length).all (λi=>(bs[i]?).getD false)=bs.all id:=by
 rw[A3H,A1W,A1W]
 constructor
 . intro h b hb
   obtain⟨i,hi,e⟩:=List.mem_iff_getElem.mp hb
   have:=h i (A38.mpr hi)
   rw[A08 hi] at this
   rw[<- e]
   exact this
 intro h i hi
 rw[A08 (A38.mp hi)]
 exact h _ (List.getElem_mem _)
theorem ab7 (hc:X.calm=true):CallR X (.builtin "all") (λxs H Q=>∃(a:Addr) (bs:List Bool),xs=[.ref a]/\SqL X.K H a (bs.map V.bl)/\Q (.bl (bs.all id)) H):=by
 intro pins s σ H xs us Q I r h
 obtain⟨a,bs,rfl,hl,q⟩:=h
 obtain⟨u,rfl,ru⟩:=Km r
 cases ru
 obtain⟨its,rv,pl,hz⟩:=I.list hl
 have hlen:=rv.length
 have hne:a≠s.heap.objs.size:=by obtain⟨o,n,ho,_⟩:=pl;exact A0J (A09 ho)
 refine call_all_walk (A3W pl.isList ?_)
 refine⟨_,_,_,_,_,_,λi=>(bs[i]?).getD false,rfl,Walks.list (A:=X.A.in1) (I.ok.hd hc) _ a hne its.toArray,⟨⟨_,A0E _ rfl,rfl,rfl⟩,pl.isList.at λo e=>A02 _ e⟩,λi v s' Q' E' hp hq=>?_,λh' tk hk=>?_⟩
 . obtain⟨b,hb,rfl⟩:=a85 rv i v (by simpa using hp)
   dsimp only at hq;rw[hb] at hq
   exact A2N hq
 refine⟨.bl _,H,I.kept (t':=tk) λb ob e=>hk b ob (λhm=>absurd (Heap.lt_size e) (by rw[show b=s.heap.objs.size by simpa using hm];exact Nat.lt_irrefl _)) (Heap.get?_push_of_some _ e),?_,q⟩
 have e1:its.toArray.size=bs.length:=by rw[A0N,<- hlen,A00]
 rw[e1,a62]
 rfl
end
section
variable {X:Cx}{x:Str}{pos:Pos}
theorem Ii {v:V}(hg:Gl X x)(hm:∃ u,X.mg x=some u/\RelV v u)(hd:(x==("__debug__":Str))=false:=by decide):PE X (.Name x pos) (tC v):=by
 obtain⟨u,h1,h2⟩:=hm
 exact aj0 hg h1 h2 hd
end
section
variable {X:Cx}{K:PySem.W.Frag}
def ar6 (K:PySem.W.Frag):R2:=λx y H Q=>∃ a b ys,x = .ref a/\y = .ref b/\SqT K H a []/\SqT K H b ys/\Q (.ref b) H
theorem aj6:OpR X (binaryOp .Add) (ar6 X.K):=by
 intro pins s σ H x y v u Q I rx ry h
 obtain⟨a,b,ys,rfl,rfl,ha,hb,q⟩:=h
 cases rx
 cases ry
 obtain⟨its,r1,p1,_⟩:=I.tuple ha
 obtain⟨its2,r2,p2,_⟩:=I.tuple hb
 cases r1
 obtain⟨⟨cls,dd,data,sl⟩,ho,hc,n,hd⟩:=id p1
 obtain⟨⟨cls2,dd2,data2,sl2⟩,ho2,hc2,n2,hd2⟩:=id p2
 simp only at hc hd hc2 hd2
 subst hc hd hc2 hd2
 exact concat_meets ⟨_,ho,rfl⟩ ⟨_,ho2,rfl⟩ noFill_tuple_add seq_tuple_add A46 A3Z (A3T _ _) (tuple_addW0 a b _ _ n n2 dd dd2 sl sl2 nofun) ⟨ho,ho2,⟨.ref b,H,I,rfl,q⟩⟩
def aH0 (K:PySem.W.Frag):V->Option Int->Option Int->Hp->VK->Prop:=λx lo hi H Q=>∃ a xs,x = .ref a/\SqT K H a xs/\(HT.sIx xs.length 0 lo=0/\HT.sIx xs.length xs.length hi=xs.length)/\Q (.ref a) H
theorem a82:SlR X (aH0 X.K):=by
 intro pins s σ H x v vl vu lo hi sl Q I rx hs pl pu h
 obtain⟨a,xs,rfl,hx,hw,q⟩:=h
 cases rx
 obtain⟨its,r,ht,hz⟩:=I.tuple hx
 have hlen:its.toArray.size=xs.length:=by rw[A0N];exact r.length.symm
 refine⟨"tuple",_,PyProof.Rows.slot_tuple_getitem.lookup,ht.typeIs,?_⟩
 obtain⟨os,hos,hcs,hds⟩:=id hs
 have hTs:s.TypeIs (.ref sl) "slice":=⟨os,hos,hcs⟩
 unfold getItem
 try with_reducible refine A1F ?_
 first | refine A01 (A06 ?_) | skip
 refine A01 (wpAny_sequenceKey ht.typeIs ∅ ?_)
 refine A01 (A2Z (name:=Str.ofString "__getitem__") ht.typeIs A22 (A3C A22 ht.typeIs entry_tuple_getitem ?_ (args_tuple_getitem _ _)))
 refine A01 (m:=Builtin.Tuple.tupleItemsOf (.ref a)) (tupleItemsOf_ ht ?_)
 refine A01 (A49 hTs ?_)
 rw[A11 ∅]
 refine A01 (HT.sliceApplied_gen hs pl pu ?_)
 have yes:(((HT.sIx its.toArray.size 0 lo:Nat):Int)==0&&(1:Int)==1&&(HT.sIx its.toArray.size its.toArray.size hi-HT.sIx its.toArray.size 0 lo)==its.toArray.size)=true:=by
  rw[hlen,hw.1,hw.2]
  simp
 show wpAny _ _ (if(((HT.sIx its.toArray.size 0 lo:Nat):Int)==0&&(1:Int)==1&&(HT.sIx its.toArray.size its.toArray.size hi-HT.sIx its.toArray.size 0 lo)==its.toArray.size)=true then _ else _) _ _ s
 rw[A11 yes]
 have fin:∀ s',s'=s->EP X pins σ Q (.ref a) s':=λs' e=>by subst e;exact⟨.ref a,H,I,rfl,q⟩
 unfold Builtin.Tuple.tupleIsExact
 obtain⟨hp,g,d,tk,os⟩:=s
 have hT:=ht.typeIs
 repeat (any_goals (first | assumption | wp_step))
 exact⟨_,rfl,A06 (fin _ rfl)⟩
end
theorem Inv.freeze {X:Cx}{pins:List (Addr×Obj)}{σ:St}{H:Hp}{s:Shared}{d:Addr}{kvs:List (Key×V)}{o:Obj}(I:Inv X pins σ H s)(hd:H d=some (.dK kvs))(ho:s.heap.get? d=some o):Inv X pins σ (upd H d (.frz o (.dK kvs))) s:=by
 have nn:∀ b,H b=none->upd H d (.frz o (.dK kvs)) b=none:=λb h=>by rw[Au (Ne.symm (ne_of_none hd h))];exact h
 have other:∀ b u,H b=some u->u ≠ .dK kvs->upd H d (.frz o (.dK kvs)) b=some u:=λb u h q=>by rw[Au (ne_of h hd q)];exact h
 refine⟨I.ok,I.os,I.bare,⟨I.base.keep,I.base.slot,λb ob q n hx=>nn b (I.base.free b ob q n hx),I.base.there,λb xs q=>other b _ (I.base.tups b xs q) (by intro z;cases z),λb ob u q=>other b _ (I.base.frzs b ob u q) (by intro z;cases z),λb ps q=>?_⟩,I.loc,I.cell,nn _ I.free,λx c q=>nn _ (I.freeC x c q),λp hp=>?_,λb u q=>?_,I.len⟩
 . obtain⟨more,h⟩:=I.base.tbls b ps q
   exact⟨more,other b _ h (by intro z;cases z)⟩
 . obtain⟨a1,a2,a3⟩:=I.pin p hp
   exact⟨a1,nn _ a2,a3⟩
 by_cases e:b=d
 . subst e
   rw[Ad] at q
   cases q
   exact⟨ho,(I.hok b _ hd).stay (λc v hc z=>z) (λc z=>other c _ z (by intro w;cases w)) λc xs z=>other c _ z (by intro w;cases w)⟩
 rw[Au e] at q
 exact(I.hok b u q).stay (λc v hc z=>z) (λc z=>other c _ z (by intro w;cases w)) λc xs z=>other c _ z (by intro w;cases w)
def Itd (a:Addr)(o:Obj)(kvs:List (Key×V)):It:=
 ⟨λi H=>H a=some (.frz o (.dK kvs))/\i<kvs.length,λi H x H'=>H'=H/\∃ kv,kvs[i]? = some kv/\x=kV kv.1,λi H=>H a=some (.frz o (.dK kvs))/\kvs.length<=i⟩
theorem am6 {k:Key}{u:Value}(h:Pj k u=true):RelV (kV k) u:=by
 rcases Bp h with ⟨i,t,rfl,rfl⟩ | ⟨x,t,rfl,rfl⟩
 . exact⟨t,rfl⟩
 exact⟨t,rfl⟩
theorem Zk {X:Cx}{pins:List (Addr×Obj)}{σ:St}{H:Hp}{s:Shared}{a:Addr}{kvs:List (Key×V)}{o:Obj}{es:Array DictEntry}{ep:Nat}(I:Inv X pins σ H s)(h:H a=some (.frz o (.dK kvs)))(ho:o.data = .dict es ep):∃ vs,KV kvs vs/\s.heap.DictAt (Ar X.prog X.w) a vs ep:=by
 obtain⟨h1,_,_,vs,r,o',es',ep',h2,c,hd,rest⟩:=I.hok a _ h
 rw[h1] at h2
 cases h2
 rw[ho] at hd
 cases hd
 exact⟨vs,r,o,es,h1,c,ho,rest⟩
theorem KV.get:∀ {kvs:List (Key×V)} {vs:List (Key×Value)} {i:Nat} {kv:Key×V},KV kvs vs->kvs[i]? = some kv->∃ u,vs[i]? = some (kv.1,u)/\RelV kv.2 u
 | _,_,_,_,.nil,e=>by simp at e
 | _,_,0,kv,.cons r _,e=>by
   simp at e
   subst e
   exact⟨_,congrArg some (Prod.ext r.1.symm rfl),r.2⟩
 | _,_,i+1,kv,.cons _ t,e=>by
   obtain⟨u,h1,h2⟩:=KV.get (i:=i) t (by simpa using e)
   exact⟨u,by simpa using h1,h2⟩
theorem Th {P:Program}{w:World}{K:PySem.W.Frag}{tg:Expr}(a it:Addr)(o:Obj)(kvs:List (Key×V))(es:Array DictEntry)(ep:Nat)(hd:o.data = .dict es ep):aa7 P w K tg (Itd a o kvs) [it] it (λi h=>h.IsKeyIter it a i kvs.length ep) where
 mem:=by simp
 obj:=λi h st b hb=>by
  have e:b=it:=by simpa using hb
  subst e
  obtain⟨o,e,c,d⟩:=st
  exact⟨o,e,λv z=>by rw[d] at z;cases z⟩
 keep:=λi h h' st k=>st.at λo e=>k it nofun o e
 item:=by
  intro X hP hw hK hc i pins s σ H E I hf st hg
  subst hP hw hK
  obtain⟨hH,hi⟩:=hg
  obtain⟨vs,rv,hat⟩:=Zk I hH hd
  have hl:kvs.length=vs.length:=A2M rv
  obtain⟨kv,hkv⟩:∃ kv,kvs[i]? = some kv:=⟨kvs[i],A08 hi⟩
  obtain⟨u,hu,_⟩:=KV.get rv hkv
  obtain⟨f0,f1,f2,f3,f4,f5⟩:=hf it nofun
  rw[hl] at st
  refine wpAny_pyNext_dict_item st hat hu λkey h' hkey hit' hs'=>?_
  have I1:Inv X pins σ H { s with heap:=h' }:=I.turned (t':=s.toks) (λb o hb e=>(hs'.2 b hb).trans e) f0 f1 f3 f4 f5
  obtain⟨o',e,c,d⟩:=id hit'
  exact⟨key,rfl,a03 (s:={ s with heap:=h' }) e c d ∅ ⟨kV kv.1,H,I1,am6 hkey,⟨rfl,kv,hkv,rfl⟩,by rw[hl];exact hit',λb hb=>(hf b hb).1⟩⟩
 done:=by
  intro X hP hw hK hc i pins s σ H E I hf st hg
  subst hP hw hK
  obtain⟨hH,hi⟩:=hg
  obtain⟨vs,rv,hat⟩:=Zk I hH hd
  have hl:kvs.length=vs.length:=A2M rv
  obtain⟨f0,f1,f2,f3,f4,f5⟩:=hf it nofun
  rw[hl] at st
  exact wpAny_pyNext_dict_end (I.ok.hd hc) st hat (List.getElem?_eq_none (by omega)) λh' eb=>⟨rfl,I.turned (t':=s.toks) (λb o hb e=>eb b o hb e) f0 f1 f3 f4 f5⟩
 self:=λA i s Q E st hQ=>wpAny_pyIter_keyiter st hQ
theorem am9 {X:Cx}{tg:Expr}{pins:List (Addr×Obj)}{σ:St}{H:Hp}{s:Shared}{a:Addr}{kvs:List (Key×V)}{R:It->Hp->Prop}{E:Value->Shared->Prop}(I:Inv X pins σ H s)(h:H a=some (.dK kvs))(q:∀ o,R (Itd a o kvs) (upd H a (.frz o (.dK kvs)))) :
  wpAny (model X.prog X.w) X.A (pyIter (.ref a)) (PIE X pins σ tg R) E s:=by
 obtain⟨_,hs,vs,rv,o,es,ep,ho,c,hd,rest⟩:=I.hok a _ h
 have I1:=I.freeze h ho
 have hl:kvs.length=vs.length:=A2M rv
 refine wpAny_pyIter_dict (knd:=Ar X.prog X.w) hs ⟨o,es,ho,c,hd,rest⟩ ?_
 rw[<- hl]
 refine⟨s.heap.objs.size,[s.heap.objs.size],_,_,_,rfl,I1.kept (t':=s.toks) λb o e=>A02 _ e,Th a _ o kvs es ep hd,⟨_,A0E _ rfl,rfl,rfl⟩,λb hb=>?_,q o⟩
 have e:b=s.heap.objs.size:=by simpa using hb
 subst e
 exact I1.fpOk (A07 _) (I1.hok.fresh (A07 _))
theorem ab3 {X:Cx}{tg:Expr}{pins:List (Addr×Obj)}{σ:St}{H:Hp}{s:Shared}{a:Addr}{kvs:List (Key×V)}{o:Obj}{R:It->Hp->Prop}{E:Value->Shared->Prop}(I:Inv X pins σ H s)(h:H a=some (.frz o (.dK kvs)))(q:R (Itd a o kvs) H) :
  wpAny (model X.prog X.w) X.A (pyIter (.ref a)) (PIE X pins σ tg R) E s:=by
 obtain⟨ho',_,hs,vs,rv,o',es,ep,ho,c,hd,rest⟩:=I.hok a _ h
 rw[ho'] at ho
 cases ho
 have hl:kvs.length=vs.length:=A2M rv
 refine wpAny_pyIter_dict (knd:=Ar X.prog X.w) hs ⟨o,es,ho',c,hd,rest⟩ ?_
 rw[<- hl]
 refine⟨s.heap.objs.size,[s.heap.objs.size],_,_,_,rfl,I.kept (t':=s.toks) λb o e=>A02 _ e,Th a _ o kvs es ep hd,⟨_,A0E _ rfl,rfl,rfl⟩,λb hb=>?_,q⟩
 have e:b=s.heap.objs.size:=by simpa using hb
 subst e
 exact I.fpOk (A07 _) (I.hok.fresh (A07 _))
theorem Same.seqT {K:PySem.W.Frag}{H H':Hp}{a:Addr}{xs:List V}(e:Same H H')(h:SqT K H a xs):SqT K H' a xs:=by
 rcases h with (h | ⟨o,h⟩) | h
 . exact .inl (.inl (e _ _ h))
 . exact .inl (.inr ⟨o,e _ _ h⟩)
 exact .inr h
mutual
def Is (K:PySem.W.Frag)(H:Hp):PyData->V->Prop
 | .none,v=>v = .non
 | .bool b,v=>v = .bl b
 | .int i,v=>v = .int i
 | .str x,v=>v = .str x
 | .list ds,v=>∃ a xs,v = .ref a/\SqL K H a xs/\IsL K H ds xs
 | .tuple ds,v=>∃ a xs,v = .ref a/\SqT K H a xs/\IsL K H ds xs
 | .dict _,_=>False
def IsL (K:PySem.W.Frag)(H:Hp):List PyData->List V->Prop
 | [],vs=>vs=[]
 | d :: ds,vs=>∃ v r,vs=v :: r/\Is K H d v/\IsL K H ds r
end
mutual
theorem Is.mono {K:PySem.W.Frag}{H H':Hp}(e:Same H H'):∀(d:PyData) (v:V),Is K H d v->Is K H' d v
 | .none,_,h=>by simp only[Is] at h ⊢;exact h
 | .bool _,_,h=>by simp only[Is] at h ⊢;exact h
 | .int _,_,h=>by simp only[Is] at h ⊢;exact h
 | .str _,_,h=>by simp only[Is] at h ⊢;exact h
 | .list ds,v,h=>by
   simp only[Is] at h ⊢
   obtain⟨a,xs,e1,e2,e3⟩:=h
   exact⟨a,xs,e1,e.seq e2,IsL.mono e ds xs e3⟩
 | .tuple ds,v,h=>by
   simp only[Is] at h ⊢
   obtain⟨a,xs,e1,e2,e3⟩:=h
   exact⟨a,xs,e1,e.seqT e2,IsL.mono e ds xs e3⟩
 | .dict _,_,h=>by simp only[Is] at h
theorem IsL.mono {K:PySem.W.Frag}{H H':Hp}(e:Same H H'):∀(ds:List PyData) (vs:List V),IsL K H ds vs->IsL K H' ds vs
 | [],_,h=>by simp only[IsL] at h ⊢;exact h
 | d :: ds,vs,h=>by
   simp only[IsL] at h ⊢
   obtain⟨v,r,e1,e2,e3⟩:=h
   exact⟨v,r,e1,Is.mono e d v e2,IsL.mono e ds r e3⟩
end
section
variable {X:Cx}{pins:List (Addr×Obj)}{σ:St}{H:Hp}{s:Shared}
mutual
theorem Is.reads (I:Inv X pins σ H s):∀(d:PyData) (v:V) (u:Value),Is X.K H d v->RelV v u->∃ as,Reads s.heap u d as
 | .none,v,u,i,r=>by
   simp only[Is] at i
   subst i
   cases r
   exact⟨_,.none⟩
 | .bool b,v,u,i,r=>by
   simp only[Is] at i
   subst i
   cases r
   exact⟨_,.bool b⟩
 | .int n,v,u,i,r=>by
   simp only[Is] at i
   subst i
   obtain⟨t,rfl⟩:=r
   exact⟨_,.int n t⟩
 | .str x,v,u,i,r=>by
   simp only[Is] at i
   subst i
   obtain⟨t,rfl⟩:=r
   exact⟨_,.str x t⟩
 | .list ds,v,u,i,r=>by
   simp only[Is] at i
   obtain⟨a,xs,rfl,e2,e3⟩:=i
   cases r
   obtain⟨its,rv,⟨o,n,e,hc,hd,hs⟩,_⟩:=I.list e2
   obtain⟨as,ra⟩:=IsL.reads I ds xs its e3 rv
   exact⟨_,.list e hc hs (by simpa using ra)⟩
 | .tuple ds,v,u,i,r=>by
   simp only[Is] at i
   obtain⟨a,xs,rfl,e2,e3⟩:=i
   cases r
   obtain⟨its,rv,⟨o,e,hc,n,hd⟩,_⟩:=I.tuple e2
   obtain⟨as,ra⟩:=IsL.reads I ds xs its e3 rv
   exact⟨_,.tuple e hc hd (by simpa using ra)⟩
 | .dict _,_,_,i,_=>by simp only[Is] at i
theorem IsL.reads (I:Inv X pins σ H s):∀(ds:List PyData) (vs:List V) (us:List Value),IsL X.K H ds vs->Vals vs us->∃ as,ReadsAll s.heap us ds as
 | [],vs,us,i,r=>by
   simp only[IsL] at i
   subst i
   cases r
   exact⟨_,.nil⟩
 | d :: ds,vs,us,i,r=>by
   simp only[IsL] at i
   obtain⟨v,rr,rfl,e2,e3⟩:=i
   cases r with
   | cons r1 r2=>
     obtain⟨a1,h1⟩:=Is.reads I d v _ e2 r1
     obtain⟨a2,h2⟩:=IsL.reads I ds rr _ e3 r2
     exact⟨_,.cons h1 h2⟩
end
end
theorem Y6 {K:PySem.W.Frag}{H:Hp}:∀ ns:List Int,IsL K H (ns.map PyData.int) (ns.map V.int)
 | []=>by simp only[List.map_nil,IsL]
 | n :: r=>by
   simp only[List.map_cons,IsL]
   exact⟨_,_,rfl,by simp only[Is],Y6 r⟩
theorem Qm {K:PySem.W.Frag}{H:Hp}:∀ ns:List Str,IsL K H (ns.map PyData.str) (ns.map V.str)
 | []=>by simp only[List.map_nil,IsL]
 | n :: r=>by
   simp only[List.map_cons,IsL]
   exact⟨_,_,rfl,by simp only[Is],Qm r⟩
theorem M0 {K:PySem.W.Frag}{H:Hp}{a:Addr}{ns:List Int}(h:SqL K H a (ns.map V.int)):Is K H (.list (ns.map PyData.int)) (.ref a):=by
 simp only[Is]
 exact⟨a,_,rfl,h,Y6 ns⟩
structure QA (A:Around):Prop where
 un:A.units+150<cLine
 gd:A.guards=some []
theorem Cd {A:Around}{k:Nat}(hr:Room k A):QA A:=⟨by have:=hr.un;omega,hr.gd⟩
section
variable {X:Cx}
def X7 (K:PySem.W.Frag):R2:=λx y H Q=>(∃ i j,x = .int i/\y = .int j/\Q (.int (i+j)) H)\/(∃ i j,x = .str i/\y = .str j/\i.length+j.length<=sizeLine/\Q (.str (i++j)) H)\/aI7 x y H Q\/az9 K x y H Q\/ar6 K x y H Q
theorem al4:OpR X (binaryOp .Add) (X7 X.K):=op_add.or (op_add_str.or (op_cat.or (op_catT.or aj6)))
def a75:R2:=λx y H Q=>(∃ i j,x = .int i/\y = .int j/\CMul i j/\Q (.int (i*j)) H)\/aI1 x y H Q
theorem op_mulA:OpR X (binaryOp .Mult) a75:=op_mul.or au4
theorem Qx:OpR X (binaryOp .FloorDiv) (rI aG4 λi j=>.int (i / j)):=am4
def aD4 (K:PySem.W.Frag)(neg:Bool):R2:=λx y H Q=>∃ dx dy,Is K H dx x/\Is K H dy y/\SeqAt.shaped dx=true/\SeqAt.shaped dy=true/\Q (.bl (if neg then !PyData.eqv dx dy else PyData.eqv dx dy)) H
theorem az5 (hq:QA X.A):OpR X (compareOp .Eq) (aD4 X.K false):=by
 intro pins s σ H x y v u Q I rx ry h
 obtain⟨dx,dy,ix,iy,sx,sy,q⟩:=h
 obtain⟨as,ra⟩:=Is.reads I dx x v ix rx
 obtain⟨bs,rb⟩:=Is.reads I dy y u iy ry
 exact eq_dataH ra rb sx sy (by have:=hq.un;omega) ⟨.bl _,H,I,rfl,q⟩
theorem aB3 (hq:QA X.A):OpR X (compareOp .NotEq) (aD4 X.K true):=by
 intro pins s σ H x y v u Q I rx ry h
 obtain⟨dx,dy,ix,iy,sx,sy,q⟩:=h
 obtain⟨as,ra⟩:=Is.reads I dx x v ix rx
 obtain⟨bs,rb⟩:=Is.reads I dy y u iy ry
 exact ne_dataH ra rb sx sy (by have:=hq.un;omega) ⟨.bl _,H,I,rfl,q⟩
def aD7 (K:PySem.W.Frag):R2:=λx y H Q=>rEq x y H Q\/aD4 K false x y H Q
def aD3 (K:PySem.W.Frag):R2:=λx y H Q=>rNe x y H Q\/aD4 K true x y H Q
theorem aB2 (hq:QA X.A):OpR X (compareOp .Eq) (aD7 X.K):=op_eq.or (az5 hq)
theorem az1 (hq:QA X.A):OpR X (compareOp .NotEq) (aD3 X.K):=op_ne.or (aB3 hq)
def rInT (neg:Bool):R2:=λx y H Q=>∃ i j,x = .str i/\y = .str j/\Q (.bl (if neg then !(!(Builtin.Str.occurrences j i 0 j.length 1).isEmpty) else !(Builtin.Str.occurrences j i 0 j.length 1).isEmpty)) H
def aE2 (neg:Bool):R2:=λx y H Q=>∃ a o,y = .ref a/\DGet H a x o/\Q (.bl (if neg then !o.isSome else o.isSome)) H
theorem ax4 (hu:X.A.units+1<cLine):OpR X (compareOp .In) (aE2 false):=by
 intro pins s σ H x y v u Q I rx ry h
 obtain⟨a,o,rfl,g,q⟩:=h
 cases ry
 exact d_in hu I g rx λs' I'=>⟨.bl _,H,I',rfl,q⟩
theorem Z0 (hu:X.A.units+1<cLine):OpR X (compareOp .NotIn) (aE2 true):=by
 intro pins s σ H x y v u Q I rx ry h
 obtain⟨a,o,rfl,g,q⟩:=h
 cases ry
 exact am8 hu I g rx λs' I'=>⟨.bl _,H,I',rfl,q⟩
def aF0 (K:PySem.W.Frag)(neg:Bool):R2:=λx y H Q=>∃ d ds,Is K H d x/\(Is K H (.list ds) y\/Is K H (.tuple ds) y)/\PyData.canLayAll0 ds=true/\d.canLay0=true/\d.depth<=100/\Q (.bl (if neg then !(ds.any λe=>PyData.eqv e d) else ds.any λe=>PyData.eqv e d)) H
theorem aB7 (hq:QA X.A):OpR X (compareOp .In) (aF0 X.K false):=by
 intro pins s σ H x y v u Q I rx ry h
 obtain⟨d,ds,ix,iy,h1,h2,h3,q⟩:=h
 obtain⟨bs,rb⟩:=Is.reads I d x v ix rx
 rcases iy with iy | iy
 . obtain⟨as,ra⟩:=Is.reads I _ y u iy ry
   exact SeqAt.in_list_reads ra rb h1 h2 (by have:=hq.un;have:=A3B (PyData.depthAll ds) d.depth;omega) ⟨.bl _,H,I,rfl,q⟩
 obtain⟨as,ra⟩:=Is.reads I _ y u iy ry
 exact SeqAt.in_tuple_reads ra rb h1 h2 (by have:=hq.un;have:=A3B (PyData.depthAll ds) d.depth;omega) ⟨.bl _,H,I,rfl,q⟩
theorem a07 (hq:QA X.A):OpR X (compareOp .NotIn) (aF0 X.K true):=by
 intro pins s σ H x y v u Q I rx ry h
 obtain⟨d,ds,ix,iy,h1,h2,h3,q⟩:=h
 obtain⟨bs,rb⟩:=Is.reads I d x v ix rx
 rcases iy with iy | iy
 . obtain⟨as,ra⟩:=Is.reads I _ y u iy ry
   exact SeqAt.notIn_list_reads ra rb h1 h2 (by have:=hq.un;have:=A3B (PyData.depthAll ds) d.depth;omega) ⟨.bl _,H,I,rfl,q⟩
 obtain⟨as,ra⟩:=Is.reads I _ y u iy ry
 exact SeqAt.notIn_tuple_reads ra rb h1 h2 (by have:=hq.un;have:=A3B (PyData.depthAll ds) d.depth;omega) ⟨.bl _,H,I,rfl,q⟩
def a52 (K:PySem.W.Frag)(neg:Bool):R2:=λx y H Q=>rIn K neg x y H Q\/rInT neg x y H Q\/aE2 neg x y H Q\/aF0 K neg x y H Q
theorem QA.hu {A:Around}(h:QA A):A.units+1<cLine:=by have:=h.un;omega
theorem aw2 (hq:QA X.A):OpR X (compareOp .In) (a52 X.K false):=op_in_seq.or (op_in_str.or ((ax4 hq.hu).or (aB7 hq)))
theorem Xq (hq:QA X.A):OpR X (compareOp .NotIn) (a52 X.K true):=op_notIn_seq.or (op_notIn_str.or ((Z0 hq.hu).or (a07 hq)))
def aC8 (K:PySem.W.Frag):V->Option Int->Option Int->Hp->VK->Prop:=λx lo hi H Q=>aJ6 K x lo hi H Q\/aH2 K x lo hi H Q\/aH6 x lo hi H Q\/aH0 K x lo hi H Q
theorem sl_A:SlR X (aC8 X.K):=sl_list.or (sl_tup.or (sl_str.or a82))
def aJ0:R2:=λx y H Q=>∃ a v,x = .ref a/\DGet H a y (some v)/\Q v H
theorem al2 (hu:X.A.units+1<cLine):IxR X aJ0:=by
 intro value slice pins s σ H x y v u Q I rx ry h hs
 obtain⟨a,z,rfl,g,q⟩:=h
 cases rx
 exact tail_any (Ud I g) PySem.F.slot_dict_getitem.lookup (Z3 hu I g ry λw' s' I' rw'=>⟨z,H,I',rw',q⟩) hs
def Xp (K:PySem.W.Frag):R2:=λx y H Q=>rIx K x y H Q\/aJ0 x y H Q
theorem as4 (hu:X.A.units+1<cLine):IxR X (Xp X.K):=ix_seq.or (al2 hu)
def Wr (K:PySem.W.Frag):List V->Hp->VK->Prop:=λxs H Q=>(∃ x n,xs=[x]/\aJ5 K x H n/\Q (.int n) H)\/∃ a kvs,xs=[V.ref a]/\H a=some (.dK kvs)/\Q (.int kvs.length) H
theorem a64:CallR X (.builtin "len") (Wr X.K):=call_len.or Zd
def Qw (K:PySem.W.Frag):List V->Hp->VK->Prop:=λxs H Q=>(∃ x c t b,xs=[x,.ty c]/\TyOf K H x t/\PySem.W.kitOne K t (.type c)=some b/\Q (.bl b) H)\/(∃ x c t b,xs=[x,.ref c]/\TyOf K H x t/\PySem.W.kitOne K t (.ref c)=some b/\Q (.bl b) H)\/∃ a ys c b,xs=[V.ref a,.ty c]/\((SqT K H a ys/\PySem.W.kitOne K (.type "tuple") (.type c)=some b)\/(SqL K H a ys/\PySem.W.kitOne K (.type "list") (.type c)=some b))/\Q (.bl b) H
theorem Sf:CallR X (.builtin "isinstance") (Qw X.K):=call_isinst.or (call_isinstR.or Tv)
def Wl (K:PySem.W.Frag):List V->Hp->VK->Prop:=λxs H Q=>∃ p ys,xs=[.ref p]/\(SqL K H p ys\/SqT K H p ys)/\∀ l,H l=none->Q (.ref l) (upd H l (.lst ys))
theorem Xj:CallR X (.type "list") (Wl X.K):=Rv
def Mu (K:PySem.W.Frag):List V->Hp->VK->Prop:=λxs H Q=>∃ p ys,xs=[.ref p]/\((SqL K H p ys/\∀ l,H l=none->Q (.ref l) (upd H l (.tup ys)))\/(SqT K H p ys/\Q (.ref p) H))
theorem Uy:CallR X (.type "tuple") (Mu X.K):=Rf
def aA4:List V->Hp->VK->Prop:=λxs H Q=>(∃ b,xs=[.bl b]/\Q (.str (if b then "True" else "False")) H)\/(xs=[.non]/\Q (.str "None") H)
theorem Qe:CallR X (.builtin "repr") aA4:=Wt
def aB0:List V->Hp->VK->Prop:=λxs H Q=>(∃ i,xs=[.int i]/\Q (.int i) H)\/∃ k,xs=[.bl k]/\Q (.int (if k then 1 else 0)) H
theorem Ip:CallR X (.type "int") aB0:=Zf
def ak8 (K:PySem.W.Frag):List V->Hp->VK->Prop:=λxs H Q=>∃(a:Addr) (bs:List Bool),xs=[.ref a]/\SqL K H a (bs.map V.bl)/\Q (.bl (bs.all id)) H
theorem Zq (hc:X.calm=true):CallR X (.builtin "all") (ak8 X.K):=ab7 hc
variable {tg:Expr}
def Kg (K:PySem.W.Frag)(x:V)(H1:Hp)(R:It->Hp->Prop):Prop:=(∃ a,x = .ref a/\(∃ xs,SqL K H1 a xs)/\R (Itl K a) H1)\/(∃ a,x = .ref a/\(∃ xs,SqT K H1 a xs)/\R (Itt K a) H1)\/(∃ z,x = .str z/\R (Its z) H1)\/∃ a kvs,x = .ref a/\((H1 a=some (.dK kvs)/\∀ o,R (Itd a o kvs) (upd H1 a (.frz o (.dK kvs))))\/∃ o,H1 a=some (.frz o (.dK kvs))/\R (Itd a o kvs) H1)
def aF7 (K:PySem.W.Frag)(tl:TE):TI:=fun σ H R=>tl σ H λx H1=>Kg K x H1 R
theorem ax5 (hu:X.A.units+1<cLine){l:Expr}{tl:TE}(hl:PE X l tl):PI X tg l (aF7 X.K tl):=by
 intro pins s σ H R I h
 refine thn (hl pins s σ H _ I h) λv s1 ⟨x,H1,I1,r1,q1⟩=>?_
 rcases q1 with ⟨a,e,⟨xs,hq⟩,q⟩ | ⟨a,e,⟨xs,hq⟩,q⟩ | ⟨z,e,q⟩ | ⟨a,kvs,e,q⟩
 . subst e
   cases r1
   obtain⟨its,rv,p,hz⟩:=I1.list hq
   refine A3W p.isList ?_
   refine⟨s1.heap.objs.size,[s1.heap.objs.size],_,_,H1,rfl,I1.kept (t':=s1.toks) λb o e=>A02 _ e,Z2 a _,⟨_,A0E _ rfl,rfl,rfl⟩,λb hb=>?_,q⟩
   have e:b=s1.heap.objs.size:=by simpa using hb
   subst e
   exact I1.fpOk (A07 _) (I1.hok.fresh (A07 _))
 . subst e
   cases r1
   obtain⟨its,rv,p,hz⟩:=I1.tuple hq
   refine A31 (show s1.heap.IsTuple a its.toArray from p) ?_
   refine⟨s1.heap.objs.size,[s1.heap.objs.size],_,_,H1,rfl,I1.kept (t':=s1.toks) λb o e=>A02 _ e,X4 a _,⟨_,A0E _ rfl,rfl,rfl⟩,λb hb=>?_,q⟩
   have e:b=s1.heap.objs.size:=by simpa using hb
   subst e
   exact I1.fpOk (A07 _) (I1.hok.fresh (A07 _))
 . subst e
   exact at6 I1 r1 q
 subst e
 cases r1
 rcases q with ⟨hd,q⟩ | ⟨o,hd,q⟩
 . exact am9 I1 hd q
 exact ab3 I1 hd q
end
def Fnd (P:Program)(w:World)(K:PySem.W.Frag)(mg:Str->Option Value)(base:Heap)(k:Nat)(x:Str)(ps:List Str)(sp:Sp):Prop:=
 ∃ f fd,FnOk P w K mg base CX0 k f fd ps sp/\mg x=some (.ref f)/\PySem.W.keepIn K (.ref f)=true/\Binds K fd ps []
section
variable {X:Cx}{k:Nat}{x:Str}{ps:List Str}{sp:Sp}{e:Expr}{es:List Expr}{t:TA}{p pos:Pos}
theorem Bo (F:Fnd X.prog X.w X.K X.mg X.base k x ps sp)(hr:Room k X.A)(hg:Gl X x)(ha:PA X (e :: es) t)(hdb:(x==("__debug__":Str))=false:=by decide)
  (he:starEach (e :: es) X.env=(false,eval e X.env) :: starEach es X.env:=by ac_nf) (hpl:(backTo pos (starEach es X.env)).any (·.1)=false:=by ac_nf):PE X (.Call (.Name x p) (e :: es) [] pos) (Xx sp [] E0 t):=by
 obtain⟨f,fd,h1,h2,h3,h4⟩:=F
 exact Zh h1 hr hg h2 h3 h4 .nil a86 ha hdb he hpl
end
def ExtBut (d:Addr)(H H':Hp):Prop:=∀ b o,b≠d->H b=some o->H' b=some o
theorem Same.lk {H H':Hp}{a:Addr}{o:HO}(e:Same H H')(h:H a=some o):H' a=some o:=e a o h
theorem ExtBut.lk {d:Addr}{H H':Hp}{a:Addr}{o:HO}(e:ExtBut d H H')(h:H a=some o)(n:a≠d):H' a=some o:=e a o n h
theorem Same.upd {H:Hp}{p:Addr}{o:HO}(h:H p=none):Same H (upd H p o):=λb u e=>by rw[Au (ne_of_none e h)];exact e
theorem ExtBut.upd {H:Hp}{p:Addr}{o:HO}:ExtBut p H (upd H p o):=λb u n e=>by rw[Au n];exact e
theorem Same.but {d:Addr}{H H':Hp}(e:Same H H'):ExtBut d H H':=λb o _ h=>e b o h
theorem ExtBut.trans {d:Addr}{H H1 H2:Hp}(a:ExtBut d H H1)(b:ExtBut d H1 H2):ExtBut d H H2:=λc o n h=>b c o n (a c o n h)
theorem ExtBut.same {d:Addr}{H H1 H2:Hp}(a:ExtBut d H H1)(b:Same H1 H2):ExtBut d H H2:=λc o n h=>b c o (a c o n h)
theorem ExtBut.refl {d:Addr}{H:Hp}:ExtBut d H H:=λ_ _ _ h=>h
def az6 (xs:List V)(H:Hp)(Q:VK):Prop:=xs.length<=sizeLine/\∀ p,H p=none->Q (.ref p) (upd H p (.tup xs))
def as7 (xs:List V)(H:Hp)(Q:VK):Prop:=xs.length<=sizeLine/\∀ p,H p=none->Q (.ref p) (upd H p (.lst xs))
def au5 (vs:List V)(H:Hp)(R:It->Hp->Prop):Prop:=∃ j:Int,vs=[.int j] /\ -(2 ^ 62)<=j/\j<2 ^ 62/\R (Itr 0 j.toNat) H
def ay1 (vs:List V)(H:Hp)(R:It->Hp->Prop):Prop:=∃ i j:Int,vs=[.int i,.int j]/\(-(2 ^ 62)<=i/\i<2 ^ 62 /\ -(2 ^ 62)<=j/\j<2 ^ 62)/\R (Itr i (j-i).toNat) H
def ak7 (g:TG)(tb:TS)(D:Ends)(σ:St)(J:It)(H1:Hp):Prop:=∃ W:Nat->Nat->St->Hp->Prop,(∃ m,W 0 m σ H1)/\∀ i m σ H,W i m σ H ->
 (J.stop i H/\D.nx σ H)\/(J.go i H/\∃ N:St->Hp->Prop,(∀ σ' H',N σ' H'->∃ m',m'<m/\W (i+1) m' σ' H')/\∀ x H',J.yld i H x H'->g x σ H' fun σ2 H2=>tb { D with nx:=N,ct:=N,bk:=D.nx } σ2 H2)
def Uw (k:Nat)(js:List Nat)(g:TG)(tt:TT)(te:TE)(σ:St)(J:It)(H1:Hp)(Q:VK):Prop:=∀ p,H1 p=none ->
 ∃ W:Nat->Nat->Hp->Prop,(∃ m,W 0 m (upd H1 p (.lst [])))/\∀ i m H,W i m H ->
  (J.stop i H/\Q (.ref p) H)\/(J.go i H/\∃ N:Hp->Prop,(∀ H',N H'->∃ m',m'<m/\W (i+1) m' H') /\
   ∀ x H',J.yld i H x H'->g x (List.replicate k none++Po σ js) H' fun σ2 H2=>tt σ2 H2 λb H3=>
    if b=true then te σ2 H3 λy H4=>∃ acc,H4 p=some (.lst acc)/\acc.length<sizeLine/\N (upd H4 p (.lst (acc++[y]))) else N H3)
def ae8 (p:Addr)(ps:List (V×V))(H:Hp)(Q:VK):Prop:=H p=some (.dK [])/\∃ kvs:List (Key×V),ps=kvs.map (λkv=>(kV kv.1,kv.2))/\kvs.length<=15/\Q (.ref p) (upd H p (.dK (Gd [] kvs)))
section
variable {K:PySem.W.Frag}{σ:St}{H:Hp}{Q:VK}{D:Ends}{ta tb te:TE}{c:TT}{t u:TS}{x y v:V}{i j:Int}
theorem i_var {n:Nat}(h:σ[n]? = some (some v))(k:Q v H):aE6 n σ H Q:=⟨v,h,k⟩
theorem i_c (k:Q v H):tC v σ H Q:=k
theorem i_next (k:D.nx σ H):ar2 D σ H:=k
theorem i_ret (k:te σ H D.rt):aJ2 te D σ H:=k
theorem i_drop (k:te σ H λ_ H1=>D.nx σ H1):aw5 te D σ H:=k
theorem i_asg {g:TG}(k:te σ H λx H1=>g x σ H1 D.nx):aq8 te g D σ H:=k
theorem i_gname {n:Nat}{R:St->Hp->Prop}(k:R (σ.set n (some v)) H):Jv n v σ H R:=k
theorem i_if (k:c σ H λb H1=>if b=true then t D σ H1 else u D σ H1):aI5 c t u D σ H:=k
theorem i_op {r:R2}(k:ta σ H λx H1=>tb σ H1 λy H2=>r x y H2 Q):tOp r ta tb σ H Q:=k
theorem i_un {r:V->Hp->VK->Prop}(k:ta σ H λx H1=>r x H1 Q):tUn r ta σ H Q:=k
theorem i_rU {g:Int->V}(k:Q (g i) H):rU g (.int i) H Q:=⟨i,rfl,k⟩
theorem i_rI0 {g:Int->Int->V}(k:Q (g i j) H):rI0 g (.int i) (.int j) H Q:=⟨i,j,rfl,rfl,k⟩
theorem i_rI {C:Int->Int->Prop}{g:Int->Int->V}(h:C i j)(k:Q (g i j) H):rI C g (.int i) (.int j) H Q:=⟨i,j,rfl,rfl,h,k⟩
theorem i_addI (k:Q (.int (i+j)) H):X7 K (.int i) (.int j) H Q:=.inl ⟨i,j,rfl,rfl,k⟩
theorem i_addS {a b:Str}(h:a.length+b.length<=sizeLine)(k:Q (.str (a++b)) H):X7 K (.str a) (.str b) H Q:=.inr (.inl ⟨a,b,rfl,rfl,h,k⟩)
theorem Qa {a b:Addr}{xs ys:List V}(h1:H a=some (.lst xs))(h2:H b=some (.lst ys))(h:xs.length+ys.length<=sizeLine)(k:∀ p H',H p=none->Same H H'->H' p=some (.lst (xs++ys))->Q (.ref p) H'):X7 K (.ref a) (.ref b) H Q:=
 .inr (.inr (.inl ⟨a,b,xs,ys,rfl,rfl,h1,h2,h,λp hp=>k p _ hp (Same.upd hp) Ad⟩))
theorem au9 (h:CMul i j)(k:Q (.int (i*j)) H):a75 (.int i) (.int j) H Q:=.inl ⟨i,j,rfl,rfl,h,k⟩
theorem at3 {a:Addr}{xs:List V}(h1:H a=some (.lst xs))(h2:-(2 ^ 63)<=i/\i<2 ^ 63)(h3:xs.length*i.toNat<=sizeLine)(k:∀ p H',H p=none->Same H H'->H' p=some (.lst (List.replicate i.toNat xs).flatten)->Q (.ref p) H'):a75 (.ref a) (.int i) H Q:=
 .inr ⟨a,i,xs,rfl,rfl,h1,h2.1,h2.2,h3,λp hp=>k p _ hp (Same.upd hp) Ad⟩
theorem i_eqS (h:aD2 x y=true)(k:Q (.bl (decide (x=y))) H):aD7 K x y H Q:=.inl ⟨h,k⟩
theorem i_neS (h:aD2 x y=true)(k:Q (.bl (!decide (x=y))) H):aD3 K x y H Q:=.inl ⟨h,k⟩
theorem R6 {dx dy:PyData}(h1:Is K H dx x)(h2:Is K H dy y)(h3:SeqAt.shaped dx=true)(h4:SeqAt.shaped dy=true)(k:Q (.bl (PyData.eqv dx dy)) H):aD7 K x y H Q:=.inr ⟨dx,dy,h1,h2,h3,h4,k⟩
theorem at2 {dx dy:PyData}(h1:Is K H dx x)(h2:Is K H dy y)(h3:SeqAt.shaped dx=true)(h4:SeqAt.shaped dy=true)(k:Q (.bl (!PyData.eqv dx dy)) H):aD3 K x y H Q:=.inr ⟨dx,dy,h1,h2,h3,h4,k⟩
theorem i_true {R:Bool->Hp->Prop}(k:R true H):aa2 σ H R:=k
theorem i_tTest {R:Bool->Hp->Prop}(k:te σ H λx H'=>∃ b,x = .bl b/\R b H'):as6 te σ H R:=k
theorem i_tB {R:Bool->Hp->Prop}(k:te σ H λx H'=>∃ b,x = .bl b/\R b H'):tB te σ H R:=k
theorem i_bl {b:Bool}{R:Bool->Prop}(k:R b):∃ c,V.bl b = .bl c/\R c:=⟨b,rfl,k⟩
theorem i_not {R:Bool->Hp->Prop}(k:c σ H λb H1=>R (!b) H1):aH1 c σ H R:=k
theorem i_and {c':TT}{R:Bool->Hp->Prop}(k:c σ H λb H1=>if b=true then c' σ H1 R else R false H1):aI0 c c' σ H R:=k
theorem i_or {c':TT}{R:Bool->Hp->Prop}(k:c σ H λb H1=>if b=true then R true H1 else c' σ H1 R):tOr c c' σ H R:=k
theorem Eh {a:Addr}{xs:List V}(h:H a=some (.lst xs))(e:atI xs i=some v)(k:Q v H):Xp K (.ref a) (.int i) H Q:=.inl (.inl ⟨a,xs,i,v,rfl,rfl,SqL.of h,e,k⟩)
theorem ao8 {z:Str}{s:Nat}(h:z.length<=sizeLine)(e:atI z.cps.toList i=some s)(k:Q (.str ⟨#[s]⟩) H):Xp K (.str z) (.int i) H Q:=.inl (.inr (.inr ⟨z,i,s,rfl,rfl,h,e,k⟩))
theorem i_ixD {a:Addr}{kvs:List (Key×V)}{z:Str}(h:H a=some (.dK kvs))(e:Dj kvs (Sum.inr z:Key)=some v)(k:Q v H):Xp K (.ref a) (.str z) H Q:=.inr ⟨a,v,rfl,by rw[<- e];exact DGet.k (k:=Sum.inr z) h,k⟩
theorem i_lenL {a:Addr}{xs:List V}(h:H a=some (.lst xs))(k:Q (.int xs.length) H):Wr K [.ref a] H Q:=.inl ⟨.ref a,_,rfl,.inl ⟨xs,SqL.of h,rfl⟩,k⟩
theorem i_lenS {z:Str}(h:z.length<=sizeLine)(k:Q (.int z.length) H):Wr K [.str z] H Q:=.inl ⟨.str z,_,rfl,⟨h,rfl⟩,k⟩
theorem a96 {c:String}{t:Value}{b:Bool}(h:TyOf K H x t)(e:PySem.W.kitOne K t (.type c)=some b)(k:Q (.bl b) H):Qw K [x,.ty c] H Q:=.inl ⟨x,c,t,b,rfl,h,e,k⟩
theorem Z8 {c:String}{b:Bool}{a:Addr}{ys:List V}(h:SqT K H a ys)(e:PySem.W.kitOne K (.type "tuple") (.type c)=some b)(k:Q (.bl b) H):Qw K [.ref a,.ty c] H Q:=.inr (.inr ⟨a,ys,c,b,rfl,.inl ⟨h,e⟩,k⟩)
theorem am2 {a:Addr}{xs:List V}(h:SqL K H a xs)(k:∀ p H',H p=none->Same H H'->H' p=some (.lst xs)->Q (.ref p) H'):Wl K [.ref a] H Q:=⟨a,xs,rfl,.inl h,λp hp=>k p _ hp (Same.upd hp) Ad⟩
theorem Fs {a:Addr}{xs:List V}(h:SqL K H a xs)(k:∀ p H',H p=none->Same H H'->H' p=some (.tup xs)->Q (.ref p) H'):Mu K [.ref a] H Q:=⟨a,xs,rfl,.inl ⟨h,λp hp=>k p _ hp (Same.upd hp) Ad⟩⟩
theorem i_intB {b:Bool}(k:Q (.int (if b then 1 else 0)) H):aB0 [.bl b] H Q:=.inr ⟨b,rfl,k⟩
theorem au2 {a:Addr}{bs:List Bool}(h:SqL K H a (bs.map V.bl))(k:Q (.bl (bs.all id)) H):ak8 K [.ref a] H Q:=⟨a,bs,rfl,h,k⟩
theorem i_sl {r:V->Option Int->Option Int->Hp->VK->Prop}{tl th:TO}(k:te σ H λx H1=>tl σ H1 λl H2=>th σ H2 λu H3=>r x l u H3 Q):tSl r te tl th σ H Q:=k
theorem i_noPart {R:Option Int->Hp->Prop}(k:R none H):Y7 σ H R:=k
theorem i_part {R:Option Int->Hp->Prop}(k:te σ H λx H1=>∃ i,x = .int i/\R (some i) H1):aw1 te σ H R:=k
theorem i_int {R:Int->Prop}(k:R i):∃ j,V.int i = .int j/\R j:=⟨i,rfl,k⟩
theorem i_slS {z:Str}{lo hi:Option Int}(h:z.length<=sizeLine)(k:Q (.str (Txt.slice z lo hi)) H):aC8 K (.str z) lo hi H Q:=.inr (.inr (.inl ⟨z,rfl,h,k⟩))
theorem Ys {a:Addr}{xs:List V}{lo hi:Option Int}(h:SqL K H a xs)(k:∀ p H',H p=none->Same H H'->H' p=some (.lst (Ut xs lo hi))->Q (.ref p) H'):aC8 K (.ref a) lo hi H Q:=.inl ⟨a,xs,rfl,h,λp hp=>k p _ hp (Same.upd hp) Ad⟩
theorem i_inS {a b:Str}(k:Q (.bl (!(Builtin.Str.occurrences b a 0 b.length 1).isEmpty)) H):a52 K false (.str a) (.str b) H Q:=.inr (.inl ⟨a,b,rfl,rfl,k⟩)
theorem i_bm {T:String}{r:V->List V->Hp->VK->Prop}{ts:TA}(k:te σ H λx H1=>tyV K T x H1/\ts σ H1 λxs H2=>r x xs H2 Q):tBM K T r te ts σ H Q:=k
theorem i_bm0 {T:String}{r:V->List V->Hp->VK->Prop}(k:te σ H λx H1=>tyV K T x H1/\r x [] H1 Q):aE5 K T r te σ H Q:=k
theorem i_call {sp:Sp}{E:XK}{ts:TA}(k:ts σ H λvs H1=>sp (vs++[]) H1 Q E):Xx sp [] E ts σ H Q:=k
theorem i_cb {r:List V->Hp->VK->Prop}{ts:TA}(k:ts σ H λvs H1=>r vs H1 Q):tCB r ts σ H Q:=k
theorem i_cons {tr:TA}{R:List V->Hp->Prop}(k:ta σ H λx H1=>tr σ H1 λxs H2=>R (x :: xs) H2):ar0 ta tr σ H R:=k
theorem i_nil {R:List V->Hp->Prop}(k:R [] H):at4 σ H R:=k
theorem i_tup {ts:TA}(k:ts σ H λxs H1=>az6 xs H1 Q):aH4 ts σ H Q:=k
theorem i_lst {ts:TA}(k:ts σ H λxs H1=>as7 xs H1 Q):aI3 ts σ H Q:=k
theorem Az {xs:List V}(h:xs.length<=sizeLine)(k:∀ p H',H p=none->Same H H'->H' p=some (.tup xs)->Q (.ref p) H'):az6 xs H Q:=⟨h,λp hp=>k p _ hp (Same.upd hp) Ad⟩
theorem B7 {xs:List V}(h:xs.length<=sizeLine)(k:∀ p H',H p=none->Same H H'->H' p=some (.lst xs)->Q (.ref p) H'):as7 xs H Q:=⟨h,λp hp=>k p _ hp (Same.upd hp) Ad⟩
theorem Vk (k:∀ p H',H p=none->Same H H'->H' p=some (.dK [])->Q (.ref p) H'):af1 σ H Q:=λp hp=>k p _ hp (Same.upd hp) Ad
theorem i_put {td ty tv:TE}(k:tv σ H λv H1=>td σ H1 λx H2=>ty σ H2 λy H3=>∃ a H4,x = .ref a/\DPut H3 a y v H4/\D.nx σ H4):ax7 td ty tv D σ H:=k
theorem Gz {a:Addr}{kvs:List (Key×V)}{z:Str}{R:Hp->Prop}(h:H a=some (.dK kvs))(hl:kvs.length<1000)(k:∀ H',ExtBut a H H'->H' a=some (.dK (Hl kvs (Sum.inr z) v))->R H'):∃ b H4,V.ref a = .ref b/\DPut H b (.str z) v H4/\R H4:=
 ⟨a,_,rfl,DPut.k (k:=Sum.inr z) h (a59 (A25 hl)),k _ ExtBut.upd Ad⟩
theorem i_for {wi:TI}{g:TG}{tb:TS}(k:wi σ H λJ H1=>ak7 g tb D σ J H1):aI9 wi g tb D σ H:=k
theorem i_comp {m:Nat}{js:List Nat}{wi:TI}{g:TG}{tt:TT}(k:wi σ H λJ H1=>Uw m js g tt te σ J H1 Q):ao6 m js wi g tt te σ H Q:=k
theorem i_itS {z:Str}{R:It->Hp->Prop}(k:R (Its z) H):Kg K (.str z) H R:=.inr (.inr (.inl ⟨z,rfl,k⟩))
theorem aj7 {a:Addr}{xs:List V}{R:It->Hp->Prop}(h:SqL K H a xs)(k:R (Itl K a) H):Kg K (.ref a) H R:=.inl ⟨a,rfl,⟨xs,h⟩,k⟩
theorem Pc {a:Addr}{xs:List V}{R:It->Hp->Prop}(h:SqT K H a xs)(k:R (Itt K a) H):Kg K (.ref a) H R:=.inr (.inl ⟨a,rfl,⟨xs,h⟩,k⟩)
theorem i_rng1 {ts:TA}{R:It->Hp->Prop}(k:ts σ H λvs H1=>au5 vs H1 R):ay7 ts σ H R:=k
theorem Vu {R:It->Hp->Prop}(h:-(2 ^ 62)<=i/\i<2 ^ 62)(k:R (Itr 0 i.toNat) H):au5 [V.int i] H R:=⟨i,rfl,h.1,h.2,k⟩
theorem i_rng2 {ts:TA}{R:It->Hp->Prop}(k:ts σ H λvs H1=>ay1 vs H1 R):ay5 ts σ H R:=k
theorem ar7 {R:It->Hp->Prop}(h:(-(2 ^ 62)<=i/\i<2 ^ 62) /\ -(2 ^ 62)<=j/\j<2 ^ 62)(k:R (Itr i (j-i).toNat) H):ay1 [V.int i,V.int j] H R:=⟨i,j,rfl,⟨h.1.1,h.1.2,h.2.1,h.2.2⟩,k⟩
theorem i_iany {R:It->Hp->Prop}(k:te σ H λx H1=>Kg K x H1 R):aF7 K te σ H R:=k
theorem Vy {trs:List (TE×TE)}(k:∀ p H1,H p=none->Same H H1->H1 p=some (.dK [])->My trs σ H1 λps H2=>ae8 p ps H2 Q):ar1 trs σ H Q:=λp hp=>k p _ hp (Same.upd hp) Ad
theorem i_pair {tk tv:TE}{r:List (TE×TE)}{R:List (V×V)->Hp->Prop}(k:tk σ H λx H1=>tv σ H1 λy H2=>My r σ H2 λps H3=>R ((x,y) :: ps) H3):My ((tk,tv) :: r) σ H R:=k
theorem Rn {p:Addr}{ps:List (V×V)}(kvs:List (Key×V))(h:H p=some (.dK []))(e:ps=kvs.map (λkv=>(kV kv.1,kv.2)))(hl:kvs.length<=15)(k:∀ H',ExtBut p H H'->H' p=some (.dK (Gd [] kvs))->Q (.ref p) H'):ae8 p ps H Q:=⟨h,kvs,e,hl,k _ ExtBut.upd Ad⟩
theorem i_pair0 {R:List (V×V)->Hp->Prop}(k:R [] H):My [] σ H R:=k
end
theorem Fh {c A B:Prop}[Decidable c](h1:c->A)(h2:¬ c->B):if decide c=true then A else B:=by
 by_cases h:c
 . rw[A11 (A0S h)];exact h1 h
 rw[A0Y (by rw[A0Q h];exact A0D)];exact h2 h
theorem Wz {c A B:Prop}[Decidable c](h1:¬ c->A)(h2:c->B):if(!decide c)=true then A else B:=by
 by_cases h:c
 . rw[A0S h,A0Y ∅];exact h2 h
 rw[A0Q h,A11 ∅];exact h1 h
theorem az7 {b:Bool}{A B:Prop}(h1:b=true->A)(h2:b=false->B):if b=true then A else B:=by
 cases b
 . rw[A0Y A0D];exact h2 rfl
 rw[A11 rfl];exact h1 rfl
theorem aC0 {b:Bool}{A B:Prop}(h1:b=false->A)(h2:b=true->B):if(!b)=true then A else B:=by
 cases b
 . exact h1 rfl
 exact h2 rfl
theorem iteNT {A B:Prop}(h:B):if(!true)=true then A else B:=h
theorem iteNF {A B:Prop}(h:A):if(!false)=true then A else B:=h
theorem Aa {n:Nat}(h:n<=1000000):n<=sizeLine:=by rw[A14];omega
def Ib (J:It)(xs:List V)(G:Hp->Prop):Prop:=
 ∀ i H,G H->(i<xs.length->J.go i H)/\(xs.length<=i->J.stop i H)/\∀ x H',i<xs.length->J.yld i H x H'->H'=H/\xs[i]? = some x
theorem a73 (z:Str):Ib (Its z) (z.cps.toList.map λc=>.str ⟨#[c]⟩) λ_=>True:=by
 intro i H _
 refine⟨λh=>?_,λh=>?_,λx H' _ h=>?_⟩
 . show i<z.cps.size
   simpa using h
 . show z.cps.size<=i
   simpa using h
 obtain⟨e,c,hc,rfl⟩:=h
 refine⟨e,?_⟩
 rw[A0A,A39,hc]
 rfl
theorem Mi {K:PySem.W.Frag}{a:Addr}{xs:List V}:Ib (Itl K a) xs λH=>SqL K H a xs:=by
 intro i H g
 refine⟨λh=>⟨xs,xs[i],g,A08 h⟩,λh=>⟨xs,g,h⟩,λx H' _ h=>⟨h.1,h.2 xs g⟩⟩
theorem Fb {K:PySem.W.Frag}{a:Addr}{xs:List V}:Ib (Itt K a) xs λH=>SqT K H a xs:=by
 intro i H g
 refine⟨λh=>⟨xs,xs[i],g,A08 h⟩,λh=>⟨xs,g,h⟩,λx H' _ h=>⟨h.1,h.2 xs g⟩⟩
theorem Hg {lo:Int}{n:Nat}:Ib (Itr lo n) ((List.range n).map λ(i:Nat)=>V.int (lo+(i:Int))) λ_=>True:=by
 intro i H _
 refine⟨λh=>?_,λh=>?_,λx H' hi h=>?_⟩
 . show i<n
   simpa using h
 . show n<=i
   simpa using h
 obtain⟨e,hx⟩:=h
 refine⟨e,?_⟩
 have hi':i<n:=by simpa using hi
 rw[A0A,List.getElem?_range hi',hx]
 rfl
theorem a71 {J:It}{xs:List V}{G:Hp->Prop}{g:TG}{tb:TS}{D:Ends}{σ:St}{H:Hp}(hw:Ib J xs G)(Pv:Nat->St->Hp->Prop)(h0:Pv 0 σ H)(hG:∀ i σ H,Pv i σ H->G H)
  (hs:∀ i x σ H,xs[i]? = some x->Pv i σ H->g x σ H fun σ2 H2=>tb { D with nx:=Pv (i+1),ct:=Pv (i+1),bk:=D.nx } σ2 H2) (hd:∀ σ H,Pv xs.length σ H->D.nx σ H) :
  ∃ W:Nat->Nat->St->Hp->Prop,(∃ m,W 0 m σ H)/\∀ i m σ H,W i m σ H ->
   (J.stop i H/\D.nx σ H)\/(J.go i H/\∃ N:St->Hp->Prop,(∀ σ' H',N σ' H'->∃ m',m'<m/\W (i+1) m' σ' H')/\∀ x H',J.yld i H x H'->g x σ H' fun σ2 H2=>tb { D with nx:=N,ct:=N,bk:=D.nx } σ2 H2):=by
 refine⟨λi m σ H=>m=xs.length-i/\i<=xs.length/\Pv i σ H,⟨xs.length,by simp,Nat.zero_le _,h0⟩,?_⟩
 rintro i m σ H ⟨rfl,hi,p⟩
 obtain⟨w1,w2,w3⟩:=hw i H (hG i σ H p)
 by_cases hlt:i<xs.length
 . refine .inr ⟨w1 hlt,Pv (i+1),fun σ' H' p'=>⟨xs.length-(i+1),by omega,rfl,hlt,p'⟩,λx H' y=>?_⟩
   obtain⟨e,hx⟩:=w3 x H' hlt y
   subst e
   exact hs i x σ _ hx p
 have e:i=xs.length:=by omega
 subst e
 exact .inl ⟨w2 (A07 _),hd σ H p⟩
def CN (p:Addr)(n:Nat)(Pv:Nat->List V->Hp->Prop)(i:Nat):Hp->Prop:=λH'=>i+1<=n/\∃ acc,H' p=some (.lst acc)/\acc.length<=i+1/\Pv (i+1) acc H'
theorem am0 {p:Addr}{n:Nat}{Pv:Nat->List V->Hp->Prop}{i:Nat}{H:Hp}{acc:List V}{y:V}(hn:n<=1000000)(hi:i<n)(hl:acc.length<=i)(e:H p=some (.lst acc))(k:∀ H',ExtBut p H H'->H' p=some (.lst (acc++[y]))->Pv (i+1) (acc++[y]) H') :
  ∃ acc,H p=some (.lst acc)/\acc.length<sizeLine/\CN p n Pv i (upd H p (.lst (acc++[y]))):=
 ⟨acc,e,by rw[A14];omega,hi,acc++[y],Ad,by rw[A0H,A18];omega,k _ ExtBut.upd Ad⟩
theorem a58 {p:Addr}{n:Nat}{Pv:Nat->List V->Hp->Prop}{i:Nat}{H:Hp}{acc:List V}(hi:i<n)(hl:acc.length<=i)(e:H p=some (.lst acc))(k:Pv (i+1) acc H):CN p n Pv i H:=⟨hi,acc,e,by omega,k⟩
theorem a01 {J:It}{xs:List V}{G:Hp->Prop}{g:TG}{tt:TT}{te:TE}{σ:St}{H:Hp}{Q:VK}{p:Addr}{k:Nat}{js:List Nat}(hw:Ib J xs G)(hp:H p=none)(Pv:Nat->List V->Hp->Prop)
  (h0:∀ H',Same H H'->H' p=some (.lst [])->Pv 0 [] H') (hG:∀ i acc H,Pv i acc H->G H)
  (hs:∀ i x acc H,xs[i]? = some x->i<xs.length->acc.length<=i->H p=some (.lst acc)->Pv i acc H->g x (List.replicate k none++Po σ js) H fun σ2 H2=>tt σ2 H2 λb H3=>
   if b=true then te σ2 H3 λy H4=>∃ acc,H4 p=some (.lst acc)/\acc.length<sizeLine/\CN p xs.length Pv i (upd H4 p (.lst (acc++[y]))) else CN p xs.length Pv i H3)
  (hd:∀ acc H,H p=some (.lst acc)->acc.length<=xs.length->Pv xs.length acc H->Q (.ref p) H) :
  ∃ W:Nat->Nat->Hp->Prop,(∃ m,W 0 m (upd H p (.lst [])))/\∀ i m H,W i m H ->
   (J.stop i H/\Q (.ref p) H)\/(J.go i H/\∃ N:Hp->Prop,(∀ H',N H'->∃ m',m'<m/\W (i+1) m' H') /\
    ∀ x H',J.yld i H x H'->g x (List.replicate k none++Po σ js) H' fun σ2 H2=>tt σ2 H2 λb H3=>
     if b=true then te σ2 H3 λy H4=>∃ acc,H4 p=some (.lst acc)/\acc.length<sizeLine/\N (upd H4 p (.lst (acc++[y]))) else N H3):=by
 refine⟨λi m H=>m=xs.length-i/\i<=xs.length/\∃ acc,H p=some (.lst acc)/\acc.length<=i/\Pv i acc H,⟨xs.length,by simp,Nat.zero_le _,[],Ad,Nat.le_refl _,h0 _ (Same.upd hp) Ad⟩,?_⟩
 rintro i m H ⟨rfl,hi,acc,hacc,hl,q⟩
 obtain⟨w1,w2,w3⟩:=hw i H (hG i acc H q)
 by_cases hlt:i<xs.length
 . refine .inr ⟨w1 hlt,CN p xs.length Pv i,λH' ⟨h1,h2⟩=>⟨xs.length-(i+1),by omega,rfl,h1,h2⟩,λx H' y=>?_⟩
   obtain⟨e,hx⟩:=w3 x H' hlt y
   subst e
   exact hs i x acc _ hx hlt hl hacc q
 have e:i=xs.length:=by omega
 subst e
 exact .inl ⟨w2 (A07 _),hd acc H hacc hl q⟩
def aA3 (p:Addr)(N:Hp->Prop):VK:=λy H4=>∃ acc,H4 p=some (.lst acc)/\acc.length<sizeLine/\N (upd H4 p (.lst (acc++[y])))
theorem Ro {J:It}{xs:List V}{G:Hp->Prop}{g:TG}{tt:TT}{te:TE}{σ:St}{H:Hp}{Q:VK}{k:Nat}{js:List Nat}(hw:Ib J xs G)(Pv:Addr->Nat->List V->Hp->Prop)
  (h0:∀ p H',H p=none->Same H H'->H' p=some (.lst [])->Pv p 0 [] H') (hG:∀ p i acc H,Pv p i acc H->G H)
  (hs:∀ p i x acc H1,H p=none->xs[i]? = some x->i<xs.length->acc.length<=i->H1 p=some (.lst acc)->Pv p i acc H1->g x (List.replicate k none++Po σ js) H1 fun σ2 H2=>tt σ2 H2 λb H3=>
   if b=true then te σ2 H3 (aA3 p (CN p xs.length (Pv p) i)) else CN p xs.length (Pv p) i H3)
  (hd:∀ p acc H1,H p=none->H1 p=some (.lst acc)->acc.length<=xs.length->Pv p xs.length acc H1->Q (.ref p) H1):Uw k js g tt te σ J H Q:=λp hp=>
 a01 hw hp (Pv p) (λH' e h=>h0 p H' hp e h) (hG p) (λi x acc H1 h1 h2 h3 h4 h5=>hs p i x acc H1 hp h1 h2 h3 h4 h5) λacc H1 h1 h2 h3=>hd p acc H1 hp h1 h2 h3
theorem W5 {p:Addr}{n:Nat}{Pv:Nat->List V->Hp->Prop}{i:Nat}{H:Hp}{acc:List V}{y:V}(hn:n<=1000000)(hi:i<n)(hl:acc.length<=i)(e:H p=some (.lst acc))(k:∀ H',ExtBut p H H'->H' p=some (.lst (acc++[y]))->Pv (i+1) (acc++[y]) H') :
  aA3 p (CN p n Pv i) y H:=am0 hn hi hl e k
theorem Yp {J:It}{xs:List V}{G:Hp->Prop}{g:TG}{tt:TT}{te:TE}{σ:St}{H:Hp}{Q:VK}{k:Nat}{js:List Nat}(hw:Ib J xs G)(t:V->Bool)(f:V->V)(hz:xs.length<=1000000)(hG:∀ H',Same H H'->G H')
  (hs:∀(i:Nat) x H1 (R:VK) (R':Hp->Prop),xs[i]? = some x->Same H H1->(t x=true->R (f x) H1)->(t x=false->R' H1)->g x (List.replicate k none++Po σ js) H1 fun σ2 H2=>tt σ2 H2 λb H3=>if b=true then te σ2 H3 R else R' H3)
  (hd:∀ p H',H p=none->Same H H'->H' p=some (.lst ((xs.filter t).map f))->Q (.ref p) H'):Uw k js g tt te σ J H Q:=by
 refine Ro hw (λp i acc H1=>Same H H1/\acc=((xs.take i).filter t).map f) (λp H' hp e h=>⟨e,by simp⟩) (λp i acc H1 h=>hG H1 h.1) (λp i x acc H1 hp hx hi hl ha ⟨e,hacc⟩=>?_) λp acc H1 hp ha hl ⟨e,hacc⟩=>?_
 . have ht:xs.take (i+1)=xs.take i++[x]:=by rw[A12,hx];rfl
   refine hs i x H1 _ _ hx e (λh=>?_) λh=>?_
   . refine W5 hz hi hl ha λH' e' h'=>⟨λb o hb=>e' b o (ne_of_none hb hp) (e b o hb),?_⟩
     rw[ht,A3P,A0G,hacc]
     simp[h]
   refine a58 hi hl ha ⟨e,?_⟩
   rw[ht,A3P,A0G,hacc]
   simp[h]
 refine hd p H1 hp e ?_
 rw[ha,hacc,A17]
theorem ap9 {z:Str}{i:Nat}{v:V}(h:(z.cps.toList.map λc=>V.str ⟨#[c]⟩)[i]? = some v):∃ c,v = .str ⟨#[c]⟩/\c∈z.cps.toList:=by
 rw[A0A] at h
 cases e:z.cps.toList[i]? with
 | none=>rw[e] at h;cases h
 | some c=>rw[e] at h;cases h;exact⟨c,rfl,A04 e⟩
theorem Ex {α:Type}(xs:List α):xs.filter (λ_=>true)=xs:=by simp
theorem M4 {J:It}{xs:List V}{G:Hp->Prop}{g:TG}{te:TE}{σ:St}{H:Hp}{Q:VK}{k:Nat}{js:List Nat}(hw:Ib J xs G)(f:V->V)(hz:xs.length<=1000000)(hG:∀ H',Same H H'->G H')
  (hs:∀(i:Nat) x H1 (R:VK),xs[i]? = some x->Same H H1->R (f x) H1->g x (List.replicate k none++Po σ js) H1 fun σ2 H2=>te σ2 H2 R)
  (hd:∀ p H',H p=none->Same H H'->H' p=some (.lst (xs.map f))->Q (.ref p) H'):Uw k js g aa2 te σ J H Q:=
 Yp hw (λ_=>true) f hz hG (λi x H1 R R' hx e h _=>by
  have:=hs i x H1 R hx e (h rfl)
  show g x _ H1 fun σ2 H2=>if true=true then te σ2 H2 R else R' H2
  simpa using this) λp H' hp e h=>hd p H' hp e (by rw[h,Ex])
theorem Sv {J:It}{xs:List V}{G:Hp->Prop}{g:TG}{tb:TS}{D:Ends}{σ:St}{H:Hp}(hw:Ib J xs G)(Pv:Nat->St->Hp->Prop)(h0:Pv 0 σ H)(hG:∀ i σ H,Pv i σ H->G H)
  (hs:∀ i x σ H,xs[i]? = some x->i<xs.length->Pv i σ H->g x σ H fun σ2 H2=>tb { D with nx:=Pv (i+1),ct:=Pv (i+1),bk:=D.nx } σ2 H2) (hd:∀ σ H,Pv xs.length σ H->D.nx σ H):ak7 g tb D σ J H:=
 a71 hw Pv h0 hG (λi x σ H hx=>hs i x σ H hx (A03.mp hx).1) hd
section
variable {X:Cx}{K:PySem.W.Frag}
theorem Aw (hK:X.K=K:=by ac_nf):OpR X (binaryOp .Add) (X7 K):=hK ▸ al4
theorem B5 (hq:QA X.A)(hK:X.K=K:=by ac_nf):OpR X (compareOp .Eq) (aD7 K):=hK ▸ aB2 hq
theorem Lk (hq:QA X.A)(hK:X.K=K:=by ac_nf):OpR X (compareOp .NotEq) (aD3 K):=hK ▸ az1 hq
theorem Qc (hq:QA X.A)(hK:X.K=K:=by ac_nf):OpR X (compareOp .In) (a52 K false):=hK ▸ aw2 hq
theorem Ga (hq:QA X.A)(hK:X.K=K:=by ac_nf):OpR X (compareOp .NotIn) (a52 K true):=hK ▸ Xq hq
theorem A8 (hu:X.A.units+1<cLine)(hK:X.K=K:=by ac_nf):IxR X (Xp K):=hK ▸ as4 hu
theorem a81 (hK:X.K=K:=by ac_nf):SlR X (aC8 K):=hK ▸ sl_A
theorem C7 (hK:X.K=K:=by ac_nf):CallR X (.builtin "len") (Wr K):=hK ▸ a64
theorem Dw (hK:X.K=K:=by ac_nf):CallR X (.builtin "isinstance") (Qw K):=hK ▸ Sf
theorem Jf (hK:X.K=K:=by ac_nf):CallR X (.type "list") (Wl K):=hK ▸ Xj
theorem Bq (hK:X.K=K:=by ac_nf):CallR X (.type "tuple") (Mu K):=hK ▸ Uy
theorem Su (hc:X.calm=true)(hK:X.K=K:=by ac_nf):CallR X (.builtin "all") (ak8 K):=hK ▸ Zq hc
theorem Bs {tg:Expr}(hu:X.A.units+1<cLine){l:Expr}{tl:TE}(hl:PE X l tl)(hK:X.K=K:=by ac_nf):PI X tg l (aF7 K tl):=hK ▸ ax5 hu hl
theorem Uh {es:List Expr}{k:Nat}{t:TGs}{n:Nat}{pos:Pos}(hc:X.calm=true)(h:PGs X es t)(hK:X.K=K:=by ac_nf)
  (hn:(assignEach es X.env).length=n:=by ac_nf) (hst:(assignEach es X.env).findIdx? (·.1)=none:=by ac_nf):PG X (.Tuple es k pos) (al7 K n t):=hK ▸ as3 hc h hn hst
variable {o e:Expr}{es:List Expr}{to:TE}{t:TA}{name:Str}{apos cpos:Pos}{T id:String}{r:V->List V->Hp->VK->Prop}
theorem L0 (pa:PlainAttrs T)(slot:Slot T name id)(hty:typeOf (.builtin id)=pure (.type "method_descriptor"))(hm:MtR X id r)(ho:PE X o to)(hK:X.K=K:=by ac_nf)
  (hbase:attributeBase o name X.env (eval o X.env)=eval o X.env:=by ac_nf) (hline:(apos.endLine==cpos.line)=true:=by ac_nf):PE X (.Call (.Attribute o name apos) [] [] cpos) (aE5 K T r to):=hK ▸ as9 pa slot hty hm ho hbase hline
theorem Ff (pa:PlainAttrs T)(slot:Slot T name id)(hty:typeOf (.builtin id)=pure (.type "method_descriptor"))(hm:MtR X id r)(ho:PE X o to)(ha:PA X (e :: es) t)(hK:X.K=K:=by ac_nf)
  (hbase:attributeBase o name X.env (eval o X.env)=eval o X.env:=by ac_nf)
  (hfew:((backTo cpos (starEach (e :: es) X.env)).all (λx=>!x.1)&&(backToKw cpos (keywordEach [] X.env)).all (λx=>x.1.isSome)
   && decide ((e :: es).length+([]:List Keyword).length+(if([]:List Keyword).isEmpty then 0 else 1)<30))=true:=by ac_nf)
  (hline:(apos.endLine==cpos.line)=true:=by ac_nf) (hs:starEach (e :: es) X.env=(false,eval e X.env) :: starEach es X.env:=by ac_nf) (hplain:(backTo cpos (starEach es X.env)).any (·.1)=false:=by ac_nf) :
  PE X (.Call (.Attribute o name apos) (e :: es) [] cpos) (tBM K T r to t):=hK ▸ aE7 pa slot hty hm ho ha hbase hfew hline hs hplain
end
def Fz (H H':Hp):Prop:=∀ a xs,Rd H a (.tup xs)->Rd H' a (.tup xs)
theorem Fz.refl (H:Hp):Fz H H:=λ_ _ h=>h
theorem Fz.trans {H H1 H2:Hp}(a:Fz H H1)(b:Fz H1 H2):Fz H H2:=λc xs h=>b c xs (a c xs h)
theorem Same.fz {H H':Hp}(e:Same H H'):Fz H H':=λa xs h=>by
 rcases h with h | ⟨o,h⟩
 . exact .inl (e _ _ h)
 exact .inr ⟨o,e _ _ h⟩
theorem a54 {p:Addr}{H H':Hp}(e:ExtBut p H H')(hp:∀ xs,¬ Rd H p (.tup xs)):Fz H H':=λa xs h=>by
 have n:a≠p:=λq=>hp xs (q ▸ h)
 rcases h with h | ⟨o,h⟩
 . exact .inl (e _ _ n h)
 exact .inr ⟨o,e _ _ n h⟩
theorem ExtBut.fzL {p:Addr}{H H':Hp}{l:List V}(e:ExtBut p H H')(hp:H p=some (.lst l)):Fz H H':=a54 e λxs h=>by
 rcases h with h | ⟨o,h⟩
 . rw[hp] at h;cases h
 rw[hp] at h;cases h
theorem ExtBut.fzD {p:Addr}{H H':Hp}{l:List (Key×V)}(e:ExtBut p H H')(hp:H p=some (.dK l)):Fz H H':=a54 e λxs h=>by
 rcases h with h | ⟨o,h⟩
 . rw[hp] at h;cases h
 rw[hp] at h;cases h
theorem Fz.seq {K:PySem.W.Frag}{H H':Hp}(e:Fz H H'){a:Addr}{xs:List V}(h:SqT K H a xs):SqT K H' a xs:=by
 rcases h with h | h
 . exact .inl (e _ _ h)
 exact .inr h
mutual
def frz:PyData->Bool
 | .tuple ds=>Oh ds
 | .list _=>false
 | .dict _=>false
 | _=>true
def Oh:List PyData->Bool
 | []=>true
 | d :: ds=>frz d&&Oh ds
end
mutual
theorem Is.fz {K:PySem.W.Frag}{H H':Hp}(e:Fz H H'):∀(d:PyData) (v:V),frz d=true->Is K H d v->Is K H' d v
 | .none,_,_,h=>by simp only[Is] at h ⊢;exact h
 | .bool _,_,_,h=>by simp only[Is] at h ⊢;exact h
 | .int _,_,_,h=>by simp only[Is] at h ⊢;exact h
 | .str _,_,_,h=>by simp only[Is] at h ⊢;exact h
 | .list ds,v,hf,_=>by simp[frz] at hf
 | .tuple ds,v,hf,h=>by
   simp only[Is] at h ⊢
   obtain⟨a,xs,e1,e2,e3⟩:=h
   exact⟨a,xs,e1,e.seq e2,IsL.fz e ds xs (by simpa only[frz] using hf) e3⟩
 | .dict _,_,_,h=>by simp only[Is] at h
theorem IsL.fz {K:PySem.W.Frag}{H H':Hp}(e:Fz H H'):∀(ds:List PyData) (vs:List V),Oh ds=true->IsL K H ds vs->IsL K H' ds vs
 | [],_,_,h=>by simp only[IsL] at h ⊢;exact h
 | d :: ds,vs,hf,h=>by
   simp only[IsL] at h ⊢
   simp only[Oh,Bool.and_eq_true] at hf
   obtain⟨v,r,e1,e2,e3⟩:=h
   exact⟨v,r,e1,Is.fz e d v hf.1 e2,IsL.fz e ds r hf.2 e3⟩
end
section
variable {K:PySem.W.Frag}{H H':Hp}
theorem IsL.length:∀ {ds:List PyData} {vs:List V},IsL K H ds vs->ds.length=vs.length
 | [],_,h=>by simp only[IsL] at h;subst h;rfl
 | d :: ds,vs,h=>by
   simp only[IsL] at h
   obtain⟨v,r,rfl,_,e3⟩:=h
   simp only[List.length_cons,IsL.length e3]
theorem IsL.get:∀ {ds:List PyData} {vs:List V} {i:Nat} {x:V},IsL K H ds vs->vs[i]? = some x->∃ d,ds[i]? = some d/\Is K H d x
 | [],_,_,_,h,e=>by simp only[IsL] at h;subst h;simp at e
 | d :: ds,vs,i,x,h,e=>by
   simp only[IsL] at h
   obtain⟨v,r,rfl,e2,e3⟩:=h
   cases i with
   | zero=>simp at e;subst e;exact⟨d,rfl,e2⟩
   | succ i=>
     obtain⟨d',h1,h2⟩:=IsL.get (i:=i) e3 (by simpa using e)
     exact⟨d',by simpa using h1,h2⟩
theorem IsL.at:∀ {ds:List PyData} {vs:List V} {i:Nat} {d:PyData},IsL K H ds vs->ds[i]? = some d->∃ x,vs[i]? = some x/\Is K H d x
 | [],_,_,_,h,e=>by simp at e
 | d :: ds,vs,i,d',h,e=>by
   simp only[IsL] at h
   obtain⟨v,r,rfl,e2,e3⟩:=h
   cases i with
   | zero=>simp at e;subst e;exact⟨v,rfl,e2⟩
   | succ i=>
     obtain⟨x,h1,h2⟩:=IsL.at (i:=i) e3 (by simpa using e)
     exact⟨x,by simpa using h1,h2⟩
theorem IsL.append:∀ {ds es:List PyData} {vs us:List V},IsL K H ds vs->IsL K H es us->IsL K H (ds++es) (vs++us)
 | [],_,_,_,h,g=>by simp only[IsL] at h;subst h;exact g
 | d :: ds,es,vs,us,h,g=>by
   simp only[IsL] at h
   obtain⟨v,r,rfl,e2,e3⟩:=h
   simp only[List.cons_append,IsL]
   exact⟨v,_,rfl,e2,IsL.append e3 g⟩
theorem IsL.one {d:PyData}{v:V}(h:Is K H d v):IsL K H [d] [v]:=by simp only[IsL];exact⟨v,[],rfl,h,rfl⟩
theorem IsL.nil:IsL K H [] []:=by simp only[IsL]
theorem IsL.cons {d:PyData}{v:V}{ds:List PyData}{vs:List V}(h:Is K H d v)(g:IsL K H ds vs):IsL K H (d :: ds) (v :: vs):=by simp only[IsL];exact⟨v,vs,rfl,h,g⟩
theorem IsL.str_eq:∀ {ns:List Str} {vs:List V},IsL K H (ns.map PyData.str) vs->vs=ns.map V.str
 | [],vs,h=>by simp only[List.map_nil,IsL] at h;exact h
 | n :: ns,vs,h=>by
   simp only[List.map_cons,IsL,Is] at h
   obtain⟨v,r,rfl,rfl,e3⟩:=h
   rw[IsL.str_eq e3]
   rfl
theorem Is.tup {ds:List PyData}{v:V}(h:Is K H (.tuple ds) v):∃ a xs,v = .ref a/\SqT K H a xs/\IsL K H ds xs:=by simpa only[Is] using h
theorem Is.of_tup {ds:List PyData}{a:Addr}{xs:List V}(h:SqT K H a xs)(g:IsL K H ds xs):Is K H (.tuple ds) (.ref a):=by simp only[Is];exact⟨a,xs,rfl,h,g⟩
theorem Is.of_lst {ds:List PyData}{a:Addr}{xs:List V}(h:SqL K H a xs)(g:IsL K H ds xs):Is K H (.list ds) (.ref a):=by simp only[Is];exact⟨a,xs,rfl,h,g⟩
theorem Is.str {z:Str}{v:V}(h:Is K H (.str z) v):v = .str z:=by simpa only[Is] using h
theorem Dp {z:Str}:Is K H (.str z) (.str z):=by simp only[Is]
theorem Gy {z:Int}:Is K H (.int z) (.int z):=by simp only[Is]
theorem an7 {z:Bool}:Is K H (.bool z) (.bl z):=by simp only[Is]
end
def nmD (ns:List Str):PyData:=.tuple (ns.map PyData.str)
def prD (p:Str×Str):PyData:=.tuple [.str p.1,.str p.2]
def psD (ps:List (Str×Str)):PyData:=.tuple (ps.map prD)
def hfD (ns:List Str)(ps:List (Str×Str)):PyData:=.tuple [nmD ns,psD ps]
theorem Oa:∀ ns:List Str,Oh (ns.map PyData.str)=true
 | []=>rfl
 | n :: ns=>by simp only[List.map_cons,Oh,frz,Oa ns,Bool.and_self]
theorem ag9 (ns:List Str):frz (nmD ns)=true:=by simp only[nmD,frz,Oa]
theorem Jo (p:Str×Str):frz (prD p)=true:=by simp[prD,frz,Oh]
theorem Lx:∀ ps:List (Str×Str),Oh (ps.map prD)=true
 | []=>rfl
 | n :: ns=>by simp only[List.map_cons,Oh,Jo,Lx ns,Bool.and_self]
theorem ae5 (ps:List (Str×Str)):frz (psD ps)=true:=by simp only[psD,frz,Lx]
theorem a49 (ns:List Str)(ps:List (Str×Str)):frz (hfD ns ps)=true:=by simp only[hfD,frz,Oh,ag9,ae5,Bool.and_self]
section
variable {K:PySem.W.Frag}{H H':Hp}
theorem Is.nm {ns:List Str}{v:V}(h:Is K H (nmD ns) v):∃ a,v = .ref a/\SqT K H a (ns.map V.str):=by
 obtain⟨a,xs,rfl,h1,h2⟩:=Is.tup h
 exact⟨a,rfl,by rw[<- IsL.str_eq h2];exact h1⟩
theorem Ov {ns:List Str}{a:Addr}(h:SqT K H a (ns.map V.str)):Is K H (nmD ns) (.ref a):=Is.of_tup h (Qm ns)
theorem Is.pr {p:Str×Str}{v:V}(h:Is K H (prD p) v):∃ a,v = .ref a/\SqT K H a [.str p.1,.str p.2]:=by
 obtain⟨a,xs,rfl,h1,h2⟩:=Is.tup h
 simp only[IsL,Is] at h2
 obtain⟨_,_,rfl,rfl,_,_,rfl,rfl,rfl⟩:=h2
 exact⟨a,rfl,h1⟩
theorem ap3 {x y:Str}{a:Addr}(h:SqT K H a [.str x,.str y]):Is K H (prD (x,y)) (.ref a):=Is.of_tup h (.cons Dp (.one Dp))
theorem Is.hf {ns:List Str}{ps:List (Str×Str)}{v:V}(h:Is K H (hfD ns ps) v):∃ a x y,v = .ref a/\SqT K H a [x,y]/\Is K H (nmD ns) x/\Is K H (psD ps) y:=by
 obtain⟨a,xs,rfl,h1,h2⟩:=Is.tup h
 simp only[IsL] at h2
 obtain⟨x,_,rfl,hx,y,_,rfl,hy,rfl⟩:=h2
 exact⟨a,x,y,rfl,h1,hx,hy⟩
theorem au3 {ns:List Str}{ps:List (Str×Str)}{a:Addr}{x y:V}(h:SqT K H a [x,y])(hx:Is K H (nmD ns) x)(hy:Is K H (psD ps) y):Is K H (hfD ns ps) (.ref a):=Is.of_tup h (.cons hx (.one hy))
theorem Is.nm_fz {ns:List Str}{v:V}(h:Is K H (nmD ns) v)(e:Fz H H'):Is K H' (nmD ns) v:=Is.fz e _ _ (ag9 ns) h
theorem Is.pr_fz {p:Str×Str}{v:V}(h:Is K H (prD p) v)(e:Fz H H'):Is K H' (prD p) v:=Is.fz e _ _ (Jo p) h
theorem Is.ps_fz {ps:List (Str×Str)}{v:V}(h:Is K H (psD ps) v)(e:Fz H H'):Is K H' (psD ps) v:=Is.fz e _ _ (ae5 ps) h
theorem Is.hf_fz {ns:List Str}{ps:List (Str×Str)}{v:V}(h:Is K H (hfD ns ps) v)(e:Fz H H'):Is K H' (hfD ns ps) v:=Is.fz e _ _ (a49 ns ps) h
variable {σ:St}{Q:VK}{x v:V}{i:Int}
theorem Ej {a:Addr}{xs:List V}(h:SqT K H a xs)(e:atI xs i=some v)(k:Q v H):Xp K (.ref a) (.int i) H Q:=.inl (.inr (.inl ⟨a,xs,i,v,rfl,rfl,h,e,k⟩))
theorem Ql {ns:List Str}{ps:List (Str×Str)}(h:Is K H (hfD ns ps) x)(k:∀ v,Is K H (nmD ns) v->Q v H):Xp K x (.int 0) H Q:=by
 obtain⟨a,u,w,rfl,h1,h2,h3⟩:=h.hf
 exact Ej h1 rfl (k u h2)
theorem Yc {ns:List Str}{ps:List (Str×Str)}(h:Is K H (hfD ns ps) x)(k:∀ v,Is K H (psD ps) v->Q v H):Xp K x (.int 1) H Q:=by
 obtain⟨a,u,w,rfl,h1,h2,h3⟩:=h.hf
 exact Ej h1 rfl (k w h3)
theorem Zb {p:Str×Str}(h:Is K H (prD p) x)(k:Q (.str p.1) H):Xp K x (.int 0) H Q:=by
 obtain⟨a,rfl,h1⟩:=h.pr
 exact Ej h1 rfl k
theorem Ss {p:Str×Str}(h:Is K H (prD p) x)(k:Q (.str p.2) H):Xp K x (.int 1) H Q:=by
 obtain⟨a,rfl,h1⟩:=h.pr
 exact Ej h1 rfl k
theorem ah8 {ds:List PyData}(h:Is K H (.tuple ds) x)(k:Q (.int ds.length) H):Wr K [x] H Q:=by
 obtain⟨a,xs,rfl,h1,h2⟩:=h.tup
 rw[IsL.length h2] at k
 exact .inl ⟨.ref a,_,rfl,.inr ⟨xs,h1,rfl⟩,k⟩
theorem af0 {ns:List Str}(h:Is K H (nmD ns) x)(k:Q (.int ns.length) H):Wr K [x] H Q:=ah8 h (by rw[A00];exact k)
theorem Nb (ns:List Str):(ns.map V.str).all Rg=true:=by
 rw[A1W]
 intro v h
 obtain ⟨n,_,rfl⟩:=A0I.mp h
 rfl
theorem M8 (z:Str):∀ ns:List Str,inV (.str z) (ns.map V.str)=decide (z∈ns)
 | []=>rfl
 | n :: ns=>by
   have ih:=M8 z ns
   unfold inV at ih ⊢
   rw[A0X,A2O,ih]
   have e:eqV (V.str n) (V.str z)=decide (n=z):=by
    show(n==z)=_
    by_cases h:n=z<;>simp[h]
   rw[e]
   by_cases h:n=z
   . subst h
     simp
   have h':¬ z=n:=λq=>h q.symm
   by_cases g:z∈ns<;>simp[h,h',g]
theorem a02 {ns:List Str}{z:Str}{a:Addr}(h:SqL K H a (ns.map V.str))(k:Q (.bl (decide (z∈ns))) H):a52 K false (.str z) (.ref a) H Q:=
 .inl ⟨a,_,rfl,.inl h,rfl,Nb ns,by rw[M8];exact k⟩
theorem Sy {ns:List Str}{z:Str}(h:Is K H (nmD ns) x)(k:Q (.bl (!decide (z∈ns))) H):a52 K true (.str z) x H Q:=by
 obtain⟨a,rfl,h1⟩:=h.nm
 exact .inl ⟨a,_,rfl,.inr h1,rfl,Nb ns,by rw[M8];exact k⟩
theorem an5 {ns:List Str}{z:Str}{a:Addr}(h:SqL K H a (ns.map V.str))(k:Q (.bl (!decide (z∈ns))) H):a52 K true (.str z) (.ref a) H Q:=
 .inl ⟨a,_,rfl,.inl h,rfl,Nb ns,by rw[M8];exact k⟩
theorem ao1 {p:Str×Str}{n m:Nat}{R:St->Hp->Prop}(h:Is K H (prD p) x)(k:R ((σ.set n (some (.str p.1))).set m (some (.str p.2))) H):al7 K 2 (Pi (Jv n) (Pi (Jv m) aq6)) x σ H R:=by
 obtain⟨a,rfl,h1⟩:=h.pr
 exact⟨a,_,rfl,h1,rfl,.str p.1,[.str p.2],rfl,.str p.2,[],rfl,rfl,k⟩
theorem aB8 {a:Addr}{u w:V}{n m:Nat}{R:St->Hp->Prop}(h:SqT K H a [u,w])(k:R ((σ.set n (some u)).set m (some w)) H):al7 K 2 (Pi (Jv n) (Pi (Jv m) aq6)) (.ref a) σ H R:=
 ⟨a,_,rfl,h,rfl,u,[w],rfl,w,[],rfl,rfl,k⟩
theorem af6 {ds:List PyData}{g:TG}{tb:TS}{D:Ends}(h:Is K H (.tuple ds) x)(hf:Oh ds=true)(Pv:Nat->St->Hp->Prop)(h0:Pv 0 σ H)(hG:∀ i σ' H',Pv i σ' H'->Fz H H')
  (hs:∀ i d v σ' H',ds[i]? = some d->Is K H' d v->Pv i σ' H'->g v σ' H' fun σ2 H2=>tb { D with nx:=Pv (i+1),ct:=Pv (i+1),bk:=D.nx } σ2 H2) (hd:∀ σ' H',Pv ds.length σ' H'->D.nx σ' H') :
  Kg K x H λJ H1=>ak7 g tb D σ J H1:=by
 obtain⟨a,xs,rfl,h1,h2⟩:=h.tup
 refine Pc h1 (Sv Fb Pv h0 (λi σ' H' p=>(hG i σ' H' p).seq h1) (λi v σ' H' hx hi p=>?_) fun σ' H' p=>hd σ' H' (by rw[IsL.length h2];exact p))
 obtain⟨d,e1,e2⟩:=IsL.get (IsL.fz (hG i σ' H' p) ds xs hf h2) hx
 exact hs i d v σ' H' e1 e2 p
theorem Ko {ns:List Str}{g:TG}{tb:TS}{D:Ends}(h:Is K H (nmD ns) x)(Pv:Nat->St->Hp->Prop)(h0:Pv 0 σ H)(hG:∀ i σ' H',Pv i σ' H'->Fz H H')
  (hs:∀ i z σ' H',ns[i]? = some z->Pv i σ' H'->g (.str z) σ' H' fun σ2 H2=>tb { D with nx:=Pv (i+1),ct:=Pv (i+1),bk:=D.nx } σ2 H2) (hd:∀ σ' H',Pv ns.length σ' H'->D.nx σ' H') :
  Kg K x H λJ H1=>ak7 g tb D σ J H1:=
 af6 h (Oa ns) Pv h0 hG (λi d v σ' H' e h p=>by
  rw[A0A] at e
  cases hn:ns[i]? with
  | none=>rw[hn] at e;cases e
  | some z=>
    rw[hn] at e
    cases e
    rw[h.str]
    exact hs i z σ' H' hn p) fun σ' H' p=>hd σ' H' (by rw[A00] at p;exact p)
theorem ai3 {ps:List (Str×Str)}{g:TG}{tb:TS}{D:Ends}(h:Is K H (psD ps) x)(Pv:Nat->St->Hp->Prop)(h0:Pv 0 σ H)(hG:∀ i σ' H',Pv i σ' H'->Fz H H')
  (hs:∀ i p v σ' H',ps[i]? = some p->Is K H' (prD p) v->Pv i σ' H'->g v σ' H' fun σ2 H2=>tb { D with nx:=Pv (i+1),ct:=Pv (i+1),bk:=D.nx } σ2 H2) (hd:∀ σ' H',Pv ps.length σ' H'->D.nx σ' H') :
  Kg K x H λJ H1=>ak7 g tb D σ J H1:=
 af6 h (Lx ps) Pv h0 hG (λi d v σ' H' e h p=>by
  rw[A0A] at e
  cases hn:ps[i]? with
  | none=>rw[hn] at e;cases e
  | some z=>
    rw[hn] at e
    cases e
    exact hs i z v σ' H' hn h p) fun σ' H' p=>hd σ' H' (by rw[A00] at p;exact p)
theorem Gh {α:Type}(f:α->PyData)(hf:∀ a,frz (f a)=true):∀ xs:List α,Oh (xs.map f)=true
 | []=>rfl
 | x :: xs=>by simp only[List.map_cons,Oh,hf,Gh f hf xs,Bool.and_self]
theorem Gj {α:Type}{J:It}{xs:List V}{G:Hp->Prop}{g:TG}{tt:TT}{te:TE}{Q:VK}{k:Nat}{js:List Nat}(hw:Ib J xs G)(as:List α)(hl:as.length=xs.length)(t:α->Bool)(f:α->PyData)(hf:∀ a,frz (f a)=true)(hz:xs.length<=1000000)(hG:∀ H',Same H H'->G H')
  (hs:∀(i:Nat) a v H1 (R:VK) (R':Hp->Prop),as[i]? = some a->xs[i]? = some v->Same H H1->(t a=true->∀ y H2,Same H1 H2->Is K H2 (f a) y->R y H2)->(t a=false->∀ H2,Same H1 H2->R' H2) ->
   g v (List.replicate k none++Po σ js) H1 fun σ2 H2=>tt σ2 H2 λb H3=>if b=true then te σ2 H3 R else R' H3)
  (hd:∀ p ys H',H p=none->Same H H'->H' p=some (.lst ys)->IsL K H' ((as.filter t).map f) ys->Q (.ref p) H'):Uw k js g tt te σ J H Q:=by
 refine Ro hw (λp i acc H1=>Same H H1/\IsL K H1 (((as.take i).filter t).map f) acc) (λp H' hp e h=>⟨e,by simp only[List.take_zero,List.filter_nil,List.map_nil];exact .nil⟩) (λp i acc H1 h=>hG H1 h.1) (λp i x acc H1 hp hx hi hl1 ha ⟨e,hacc⟩=>?_) λp acc H1 hp ha hl1 ⟨e,hacc⟩=>?_
 . have hi':i<as.length:=by omega
   obtain⟨a,hai⟩:∃ a,as[i]? = some a:=⟨as[i],A08 hi'⟩
   have ht:as.take (i+1)=as.take i++[a]:=by rw[A12,hai];rfl
   refine hs i a x H1 _ _ hai hx e (λh y H2 e2 hy=>?_) λh H2 e2=>?_
   . refine W5 hz hi hl1 (e2 _ _ ha) λH' e' h'=>⟨λb o hb=>e' b o (ne_of_none hb hp) (e2 _ _ (e b o hb)),?_⟩
     rw[ht,A3P,A0G]
     have fz:=e'.fzL (e2 _ _ ha)
     refine IsL.append (IsL.fz (e2.fz.trans fz) _ _ (Gh f hf _) hacc) ?_
     simp only[List.filter_cons,h,if_true,List.filter_nil,List.map_cons,List.map_nil]
     exact .one (Is.fz fz _ _ (hf a) hy)
   refine a58 hi hl1 (e2 _ _ ha) ⟨e.trans e2,?_⟩
   rw[ht,A3P,A0G]
   simp only[List.filter_cons,h,Bool.false_eq_true,if_false,List.filter_nil,List.map_nil,List.append_nil]
   exact IsL.mono e2 _ _ hacc
 refine hd p acc H1 hp e ha ?_
 rw[<- hl,A17] at hacc
 exact hacc
end
section
variable {X:Cx}{K:PySem.W.Frag}
def ag8:PyData->Bool
 | .list _=>true
 | .tuple _=>true
 | _=>false
mutual
theorem Is.noDict {H:Hp}:∀(d:PyData) (v:V),Is K H d v->d.hasDict=false
 | .none,_,h=>by simp only[PyData.hasDict]
 | .bool _,_,h=>by simp only[PyData.hasDict]
 | .int _,_,h=>by simp only[PyData.hasDict]
 | .str _,_,h=>by simp only[PyData.hasDict]
 | .list ds,v,h=>by
   simp only[Is] at h
   obtain⟨a,xs,e1,e2,e3⟩:=h
   simp only[PyData.hasDict]
   exact IsL.noDict ds xs e3
 | .tuple ds,v,h=>by
   simp only[Is] at h
   obtain⟨a,xs,e1,e2,e3⟩:=h
   simp only[PyData.hasDict]
   exact IsL.noDict ds xs e3
 | .dict _,_,h=>by simp only[Is] at h
theorem IsL.noDict {H:Hp}:∀(ds:List PyData) (vs:List V),IsL K H ds vs->PyData.hasDictAll ds=false
 | [],_,h=>by simp only[PyData.hasDictAll]
 | d :: ds,vs,h=>by
   simp only[IsL] at h
   obtain⟨v,r,e1,e2,e3⟩:=h
   simp only[PyData.hasDictAll,Is.noDict d v e2,IsL.noDict ds r e3,Bool.or_self]
end
structure Sh (d:PyData):Prop where
 dp:ag8 d=true
 sh:d.showable=true
 fits:d.shown.length<=sizeLine
 deep:d.depth<=100
theorem Py (hq:QA X.A):CallR X (.builtin "repr") (λxs H Q=>∃ x d,xs=[x]/\Is X.K H d x/\Sh d/\Q (.str d.shown) H):=by
 intro pins s σ H xs us Q I rv h
 obtain⟨x,d,rfl,i,S,q⟩:=h
 obtain⟨u,rfl,ru⟩:=rv.one
 obtain⟨as,ra⟩:=Is.reads I d x u i ru
 have href:∃ a,u = .ref a:=by
  have hd:=S.dp
  cases d with
  | list ds=>simp only[Is] at i;obtain⟨a,_,rfl,_⟩:=i;exact⟨a,ru⟩
  | tuple ds=>simp only[Is] at i;obtain⟨a,_,rfl,_⟩:=i;exact⟨a,ru⟩
  | _=>cases hd
 obtain⟨a,rfl⟩:=href
 refine repr_of_reads' ra S.sh (λhx=>absurd hx (by rw[Is.noDict d x i];exact A0D)) hq.gd (by have:=hq.un;have:=S.deep;omega) (λ_ _ e=>e) (λh' t tk hk=>?_) S.fits
 exact⟨.str d.shown,H,I.kept hk,⟨t,rfl⟩,q⟩
def Vv (z:Str)(n:Nat):Str:=⟨(List.replicate n z.cps).foldl (· ++ ·) #[]⟩
def av3:R2:=λx y H Q=>∃ z n,x = .str z/\y = .int n/\2<=n/\n<=1000/\z.length<=1000/\0<z.length/\Q (.str (Vv z n.toNat)) H
theorem al0:OpR X (binaryOp .Mult) av3:=by
 intro pins s σ H x y v u Q I rx ry h
 obtain⟨z,n,rfl,rfl,h1,h2,h3,h4,q⟩:=h
 obtain⟨t,rfl⟩:=rx
 obtain⟨t2,rfl⟩:=ry
 have a1:¬ n<1:=by omega
 have a2:(n==1||z.length==0)=false:=by
  have e1:(n==1)=false:=by simp;omega
  have e2:(z.length==0)=false:=by simp;omega
  rw[e1,e2];rfl
 have hz:z.length*n.toNat<=1000000:=by
  have:z.length*n.toNat<=1000*1000:=Nat.mul_le_mul h3 (by omega)
  omega
 have hlen:(Vv z n.toNat).length<=sizeLine:=by
  have e:∀(m:Nat) (a:Array Nat),((List.replicate m z.cps).foldl (· ++ ·) a).size=a.size+m*z.cps.size:=by
   intro m
   induction m with
   | zero=>intro a;simp
   | succ m ih=>intro a;rw[A29,A4A,ih,Array.size_append,Nat.succ_mul];omega
  show((List.replicate n.toNat z.cps).foldl (· ++ ·) #[]).size<=sizeLine
  rw[e]
  have e2:z.cps.size=z.length:=rfl
  rw[e2,A14,Nat.mul_comm]
  simp
  omega
 refine PySem.P.mul_str (by
   have b1:¬ n < -(2 ^ 63:Int):=by omega
   have b2:¬ n>=2 ^ 63:=by omega
   rw[A0Q b1,A0Q b2];rfl) (λ_ _=>?_) (λ_ _=>?_) ?_
 . have:(2 ^ 63-1:Int) / n>=1000:=by
    refine Int.le_ediv_of_mul_le (by omega) ?_
    have:1000*n<=1000*1000:=by omega
    omega
   omega
 . have hz2:z.length*n.toNat<=sizeLine:=Aa hz
   rw[A14] at hz2
   unfold Builtin.Str.tooLong
   simp[sizeLine_eq]
   omega
 rw[A0Y a1,a2,A0Y A0D]
 exact⟨hlen,.str _,H,I.kept λ_ _ e=>e,⟨_,rfl⟩,q⟩
def a79:R2:=λx y H Q=>a75 x y H Q\/av3 x y H Q
theorem Fy:OpR X (binaryOp .Mult) a79:=op_mulA.or al0
theorem i_mulBI {i j:Int}{H:Hp}{Q:VK}(h:CMul i j)(k:Q (.int (i*j)) H):a79 (.int i) (.int j) H Q:=.inl (au9 h k)
theorem aj2 {z:Str}{n:Int}{H:Hp}{Q:VK}(h:2<=n/\n<=1000/\z.length<=1000/\0<z.length)(k:Q (.str (Vv z n.toNat)) H):a79 (.str z) (.int n) H Q:=.inr ⟨z,n,rfl,rfl,h.1,h.2.1,h.2.2.1,h.2.2.2,k⟩
theorem Um {i:Int}{H:Hp}{Q:VK}{a:Addr}{xs:List V}(h1:H a=some (.lst xs))(h2:-(2 ^ 63)<=i/\i<2 ^ 63)(h3:xs.length*i.toNat<=sizeLine)(k:∀ p H',H p=none->Same H H'->H' p=some (.lst (List.replicate i.toNat xs).flatten)->Q (.ref p) H'):a79 (.ref a) (.int i) H Q:=.inl (at3 h1 h2 h3 k)
def rIs (neg:Bool):R2:=λx y H Q=>(y = .non/\Q (.bl (if neg then !decide (x = .non) else decide (x = .non))) H)\/∃ a b,x = .bl a/\y = .bl b/\Q (.bl (if neg then !(a==b) else a==b)) H
theorem Zi:OpR X (compareOp .Is) (rIs false):=by
 intro pins s σ H x y v u Q I rx ry h
 rcases h with ⟨rfl,q⟩ | ⟨a,b,rfl,rfl,q⟩
 . exact aB4 pins s σ H x .non v u Q I rx ry ⟨rfl,q⟩
 cases rx
 cases ry
 refine wpAny_is_plain rfl ?_
 refine⟨.bl _,H,I,?_,q⟩
 show Value.bool (Value.bool a==Value.bool b)=Value.bool (a==b)
 cases a<;>cases b<;>rfl
theorem Zc:OpR X (compareOp .IsNot) (rIs true):=by
 intro pins s σ H x y v u Q I rx ry h
 rcases h with ⟨rfl,q⟩ | ⟨a,b,rfl,rfl,q⟩
 . exact ap1 pins s σ H x .non v u Q I rx ry ⟨rfl,q⟩
 cases rx
 cases ry
 refine wpAny_isNot_plain rfl ?_
 refine⟨.bl _,H,I,?_,q⟩
 show Value.bool (!(Value.bool a==Value.bool b))=Value.bool (!(a==b))
 cases a<;>cases b<;>rfl
theorem i_isN {x:V}{H:Hp}{Q:VK}(k:Q (.bl (decide (x = .non))) H):rIs false x .non H Q:=.inl ⟨rfl,k⟩
theorem i_isNotN {x:V}{H:Hp}{Q:VK}(k:Q (.bl (!decide (x = .non))) H):rIs true x .non H Q:=.inl ⟨rfl,k⟩
section
variable {D:Ends}{σ:St}{H:Hp}{t u:TS}{te td ty tv:TE}{g:TG}
theorem Ws (M:St->Hp->Prop)(h1:∀ N:St->Hp->Prop,(∀ σ' H',M σ' H'->N σ' H')->t { D with nx:=N } σ H)(h2:∀ σ' H',M σ' H'->u D σ' H'):aD6 t u D σ H:=h1 (u D) h2
end
theorem Uk {a:Addr}{xs:List V}{H:Hp}{Q:VK}(h:SqL K H a xs\/SqT K H a xs)(k:∀ p H',H p=none->Same H H'->H' p=some (.lst xs)->Q (.ref p) H'):Wl K [.ref a] H Q:=⟨a,xs,rfl,h,λp hp=>k p _ hp (Same.upd hp) Ad⟩
theorem mm {id:String}{r:V->List V->Hp->VK->Prop}(h:MtM X id r):MtR X id r:=h
theorem i_tyLm {a:Addr}{xs:List V}{H:Hp}{B:Prop}(h:H a=some (.lst xs))(k:B):tyV K "list" (.ref a) H/\B:=⟨.inl ⟨rfl,xs,SqL.of h⟩,k⟩
theorem Fo {l:Addr}{xs:List V}{y:V}{H:Hp}{Q:VK}(h:H l=some (.lst xs))(hz:xs.length<=1000000)(k:∀ H',ExtBut l H H'->H' l=some (.lst (xs++[y]))->Q .non H'):Z9 (.ref l) [y] H Q:=
 ⟨l,xs,y,rfl,rfl,h,by rw[A14];omega,k _ ExtBut.upd Ad⟩
theorem Sj {l:Addr}{xs:List V}{y:V}{H:Hp}{Q:VK}(h:H l=some (.lst (xs++[y])))(k:∀ H',ExtBut l H H'->H' l=some (.lst xs)->Q y H'):aH8 (.ref l) [] H Q:=
 ⟨l,xs++[y],y,rfl,rfl,h,by simp,by rw[List.dropLast_concat];exact k _ ExtBut.upd Ad⟩
theorem aa9 {l:Addr}{xs:List V}{y:V}{i:Int}{H:Hp}{Q:VK}(h:H l=some (.lst xs))(h0:0<=i)(h1:xs[i.toNat]? = some y)(k:∀ H',ExtBut l H H'->H' l=some (.lst (xs.eraseIdx i.toNat))->Q y H')(hz:xs.length<=1000000):ag2 (.ref l) [.int i] H Q:=by
 have h2:=(A03.mp h1).1
 refine⟨l,xs,i,i.toNat,y,rfl,rfl,h,by omega,by omega,?_,h1,k _ ExtBut.upd Ad⟩
 have e:=R1 (C5 (α:=V) h1)
 obtain⟨j,e1,e2,e3,_⟩:=e
 rw[A4L h0] at e1
 rw[e1]
 have e4:seqIndex? i xs.length=some i.toNat:=by
  unfold seqIndex? at e1 ⊢
  simp[show ¬ i<0 by omega] at e1 ⊢
  omega
 rw[<- e1,e4]
def Ww (xs:List V)(k:Int):List V:=if k=1 then xs else xs.reverse
def a65 (K:PySem.W.Frag):V->V->Hp->VK->Prop:=λx y H Q=>∃ a xs k,x = .ref a/\y = .int k/\(k=1\/k = -1)/\SqL K H a xs/\∀ p,H p=none->Q (.ref p) (upd H p (.lst (Ww xs k)))
theorem ab8 (items:Array Value):slicePick items none none (some 1)=items:=by
 have e:slicePick items none none (some 1)=slicePick items none none none:=rfl
 rw[e,Kl]
 simp[HT.sIx]
 rw[show items.size=items.toList.length by simp,List.take_length]
theorem Iy {e st:Expr}{te ts:TE}{p2 pos:Pos}(he:PE X e te)(hst:PE X st ts)(hK:X.K=K:=by ac_nf):PE X (.Subscript e (.Slice none none (some st) p2) pos) (tOp (a65 K) te ts):=by
 subst hK
 intro pins s σ H Q I h
 refine Subscript_ (thn (he pins s σ H _ I h) λv s1 ⟨x,H1,I1,r1,q1⟩=>?_)
 refine wpAny_Slice ?_
 rw[evalPart_none]
 refine A06 (A06 ?_)
 rw[evalPart_some]
 refine thn (hst pins s1 σ H1 _ I1 q1) λu s2 ⟨y,H2,I2,r2,q2⟩=>?_
 obtain⟨a,xs,k,rfl,rfl,hk,hx,q⟩:=q2
 cases r1
 obtain⟨t,rfl⟩:=r2
 have I4:Inv X pins σ H2 { s2 with heap:=s2.heap.push { cls:=.type "slice",data:=.fields #[.none,.none,.int k t] } }:=I2.kept (t':=s2.toks) λb ob q=>A02 _ q
 obtain⟨its,r,ht,hz⟩:=I4.list hx
 have hlen:=r.length
 refine tail_any (ops:=[.ref a,.ref s2.heap.objs.size]) ht.isList.typeIs slot_list_getitem.lookup ?_ ⋯
 refine wpAny_getItem_list_slice ht.isList (Heap.IsSliceOf.new ..) .none .none (.int k t) (by rcases hk with rfl | rfl<;>decide) ?_ (by rw[A0N];omega)
 rcases hk with rfl | rfl
 . rw[ab8]
   refine⟨.ref _,_,I4.laid (t':=s2.toks) (o:=.lst (Ww xs 1)) (λb ob q=>A02 _ q) (A07 _) ?_,rfl,q _ (I4.hok.fresh (A07 _))⟩
   exact⟨hz,_,0,r,A0E _ rfl⟩
 rw[PySem.W.krv_pick]
 refine⟨.ref _,_,I4.laid (t':=s2.toks) (o:=.lst (Ww xs (-1))) (λb ob q=>A02 _ q) (A07 _) ?_,rfl,q _ (I4.hok.fresh (A07 _))⟩
 exact⟨by show xs.reverse.length<=_;rw[List.length_reverse];exact hz,_,0,by show Vals xs.reverse _;exact r.reverse,A0E _ rfl⟩
theorem Qg {a:Addr}{xs:List V}{k:Int}{H:Hp}{Q:VK}(h:SqL K H a xs)(hk:k=1\/k = -1)(c:∀ p H',H p=none->Same H H'->H' p=some (.lst (Ww xs k))->Q (.ref p) H'):a65 K (.ref a) (.int k) H Q:=
 ⟨a,xs,k,rfl,rfl,hk,h,λp hp=>c p _ hp (Same.upd hp) Ad⟩
end
def Lo (c:Nat):Bool:=decide (97<=c)&&decide (c<=122)
def Tyq (x:Str):Bool:=decide (1<=x.length)&&decide (x.length<=8)&&x.cps.toList.all Lo
def Names (ns:List Str):Prop:=ns.Nodup/\∀ z∈ns,Tyq z=true
def LL:Str:="abcdefghijklmnopqrstuvwxyzabcdefghijklmnopqrstuvwxyz"
theorem at8:Vv "abcdefghijklmnopqrstuvwxyz" (2:Int).toNat=LL:=by decide +kernel
def LLn:List Nat:=LL.cps.toList
theorem at5:LL.length=52:=by decide +kernel
theorem L8:LLn.length=52:=by decide +kernel
theorem Va:∀ c∈LLn,Lo c=true:=by decide +kernel
def txt (l:List Nat):Str:=⟨l.toArray⟩
theorem Zz {a b:List Nat}(h:txt a=txt b):a=b:=by
 have:a.toArray=b.toArray:=congrArg Str.cps h
 simpa using this
theorem Yd (a b:List Nat):txt a++txt b=txt (a++b):=by
 show(⟨a.toArray++b.toArray⟩:Str)=⟨(a++b).toArray⟩
 simp
theorem Kd {l:List Nat}(h0:1<=l.length)(h1:l.length<=8)(h2:∀ c∈l,Lo c=true):Tyq (txt l)=true:=by
 unfold Tyq
 have e:(txt l).length=l.length:=by show l.toArray.size=_;simp
 rw[e,A0S h0,A0S h1]
 show(true&&true&&l.all Lo)=true
 rw[A1W.mpr h2]
 rfl
def On (a b:Nat):List Nat:=(LLn.drop a).take (b-a)
theorem Je {a b:Nat}(h:a<=b)(h1:b<=52):(On a b).length=b-a:=by
 unfold On
 rw[A16,A2U,L8]
 omega
theorem J9 {a b:Nat}:∀ c∈On a b,Lo c=true:=λc hc=>Va c (List.mem_of_mem_drop (A3E hc))
theorem Vm {i j:Int}(h0:0<=i)(h1:i<=j)(h2:j<=52):Txt.slice LL (some i) (some j)=txt (On i.toNat j.toNat):=by
 have e:=StrLaws.sliceText_plain (x:=LL) (i:=i) (j:=j) ⟨h0,h1,by rw[show LL.cps.toList.length=52 by decide +kernel];omega⟩
 have e2:(j-i).toNat=j.toNat-i.toNat:=by omega
 rw[e2] at e
 exact e
def Rq (i:Nat):List Nat:=(LLn.drop i).take 1
theorem ao7 {i:Int}(h0:0<=i)(h1:i<52):∃ c,atI LL.cps.toList i=some c/\(⟨#[c]⟩:Str)=txt (Rq i.toNat):=by
 have h2:i.toNat<LLn.length:=by rw[L8];omega
 refine⟨LLn[i.toNat],?_,?_⟩
 . have:=C5 (A08 h2)
   rwa[A4L h0] at this
 unfold Rq
 rw[List.drop_eq_getElem_cons h2]
 rfl
theorem M3 {i:Nat}(h:i<52):(Rq i).length=1:=by
 unfold Rq
 rw[A16,A2U,L8]
 omega
theorem Ky {i:Nat}:∀ c∈Rq i,Lo c=true:=λc hc=>Va c (List.mem_of_mem_drop (A3E hc))
def nm0 (s:Nat):List (List Nat):=(List.range 8).map (λk=>On s (s+1+k))++[Rq (s+9),Rq (s+10)]
def nm1 (s z a:Nat):List (List Nat):=(List.range 10).map λk=>On s (s+a)++Rq (s+5*k % 26)++On (s+a+1) (s+z)
def nm2 (s:Nat):List (List Nat):=(List.range 10).map λk=>On (s+k) (s+k+1+3*k % 8)
theorem nd0:∀ s<26,(nm0 s).Nodup:=by decide +kernel
theorem nd2:∀ s<26,(nm2 s).Nodup:=by decide +kernel
theorem nd1':∀ s<26,((List.range 10).map λk=>Rq (s+5*k % 26)).Nodup:=by decide +kernel
theorem Iz {α β:Type}{f:α->β}:∀ {l:List α},l.Nodup->(∀ a∈l,∀ b∈l,f a=f b->a=b)->(l.map f).Nodup
 | [],_,_=>by simp
 | a :: l,h,hf=>by
   rw[A0X,A13]
   rw[A13] at h
   refine⟨λhm=>?_,Iz h.2 λx hx y hy=>hf x (A0C _ hx) y (A0C _ hy)⟩
   obtain⟨b,hb,e⟩:=A0I.mp hm
   have:=hf b (A0C _ hb) a A0V e
   subst this
   exact h.1 hb
theorem Ic {α β:Type}{f:α->β}:∀ {l:List α},(l.map f).Nodup->∀ a∈l,∀ b∈l,f a=f b->a=b
 | [],_,a,ha,_,_,_=>by cases ha
 | c :: l,h,a,ha,b,hb,e=>by
   rw[A0X,A13] at h
   rcases A0K.mp ha with q | ha'
   . rcases A0K.mp hb with q' | hb'
     . rw[q,q']
     exact absurd (A0I.mpr ⟨b,hb',by rw[<- e,q]⟩) h.1
   rcases A0K.mp hb with q' | hb'
   . exact absurd (A0I.mpr ⟨a,ha',by rw[e,q']⟩) h.1
   exact Ic h.2 a ha' b hb' e
theorem Mq {l:List (List Nat)}(h:l.Nodup):(l.map txt).Nodup:=Iz h λa _ b _ e=>Zz e
theorem nd1 {s z a:Nat}(hs:s<26):(nm1 s z a).Nodup:=by
 refine Iz List.nodup_range λk hk j hj e=>?_
 have e1:Rq (s+5*k % 26)=Rq (s+5*j % 26):=List.append_cancel_left (List.append_cancel_right e)
 exact Ic (f:=λk=>Rq (s+5*k % 26)) (nd1' s hs) k hk j hj e1
theorem ax8 {s:Nat}(hs:s<26):Names ((nm0 s).map txt):=by
 refine⟨Mq (nd0 s hs),λz hz=>?_⟩
 obtain⟨l,hl,rfl⟩:=A0I.mp hz
 rcases A0B.mp hl with h | h
 . obtain⟨k,hk,rfl⟩:=A0I.mp h
   have hk:=A38.mp hk
   have e:=Je (a:=s) (b:=s+1+k) (by omega) (by omega)
   exact Kd (by omega) (by omega) J9
 simp only[List.mem_cons,List.not_mem_nil,or_false] at h
 rcases h with rfl | rfl
 . have e:=M3 (i:=s+9) (by omega)
   exact Kd (by omega) (by omega) Ky
 have e:=M3 (i:=s+10) (by omega)
 exact Kd (by omega) (by omega) Ky
theorem as5 {s z a:Nat}(hs:s<26)(ha:a<z)(hz:z<=8):Names ((nm1 s z a).map txt):=by
 refine⟨Mq (nd1 hs),λy hy=>?_⟩
 obtain⟨l,hl,rfl⟩:=A0I.mp hy
 obtain⟨k,hk,rfl⟩:=A0I.mp hl
 have hm:5*k % 26<26:=Nat.mod_lt _ ∅
 have e1:=Je (a:=s) (b:=s+a) (by omega) (by omega)
 have e2:=M3 (i:=s+5*k % 26) (by omega)
 have e3:=Je (a:=s+a+1) (b:=s+z) (by omega) (by omega)
 refine Kd (by simp only[List.length_append];omega) (by simp only[List.length_append];omega) λc hc=>?_
 rcases A0B.mp hc with hc | hc
 . rcases A0B.mp hc with hc | hc
   . exact J9 c hc
   exact Ky c hc
 exact J9 c hc
theorem au0 {s:Nat}(hs:s<26):Names ((nm2 s).map txt):=by
 refine⟨Mq (nd2 s hs),λz hz=>?_⟩
 obtain⟨l,hl,rfl⟩:=A0I.mp hz
 obtain⟨k,hk,rfl⟩:=A0I.mp hl
 have hk:=A38.mp hk
 have hm:3*k % 8<8:=Nat.mod_lt _ ∅
 have e:=Je (a:=s+k) (b:=s+k+1+3*k % 8) (by omega) (by omega)
 exact Kd (by omega) (by omega) J9
def nm3:List Str:=["names","ahead","name","a","ab","aheads","last","ask","row","end"]
theorem az8:Names nm3:=⟨by decide +kernel,by decide +kernel⟩
theorem Names.perm {ns ms:List Str}(h:Names ns)(p:ms.Perm ns):Names ms:=⟨p.nodup_iff.mpr h.1,λz hz=>h.2 z (p.mem_iff.mp hz)⟩
theorem Names.sublist {ns ms:List Str}(h:Names ns)(p:ms.Sublist ns):Names ms:=⟨h.1.sublist p,λz hz=>h.2 z (p.subset hz)⟩
theorem Vt {xs:List V}{t:Int}(h0:0<=t)(h1:t<=xs.length):Ut xs (some t) none=xs.drop t.toNat:=by
 have e:HT.sIx xs.length 0 (some t)=t.toNat:=by unfold HT.sIx;simp[show ¬ t<0 by omega];omega
 unfold Ut
 rw[e]
 have e2:HT.sIx xs.length xs.length none=xs.length:=rfl
 rw[e2]
 exact A47 (by rw[A2U];omega)
theorem Wc {xs:List V}{t:Int}(h0:0<=t):Ut xs none (some t)=xs.take t.toNat:=by
 have e:HT.sIx xs.length xs.length (some t)=min t.toNat xs.length:=by unfold HT.sIx;simp[show ¬ t<0 by omega]
 unfold Ut
 rw[e]
 have e2:HT.sIx xs.length 0 none=0:=rfl
 rw[e2,List.drop_zero,Nat.sub_zero,Nat.min_comm]
 rw[<- List.take_take]
 exact A47 (by rw[A16];omega)
theorem Mf {lo:Int} {n i:Nat} {x:V} (h:((List.range n).map λ(i:Nat)=>V.int (lo+(i:Int)))[i]? = some x):x = .int (lo+(i:Int))/\i<n:=by
 rw[A0A] at h
 cases e:(List.range n)[i]? with
 | none=>rw[e] at h;cases h
 | some j=>
   rw[e] at h
   cases h
   have e1:=A03.mp e
   obtain⟨h1,h2⟩:=e1
   rw[List.length_range] at h1
   rw[List.getElem_range] at h2
   subst h2
   exact⟨rfl,h1⟩
def fI (F:Int->V):V->V
 | .int k=>F k
 | v=>v
theorem Tz {lo:Int}{n:Nat}{F:Int->V}{G:Nat->Str}(h:∀ k<n,F (lo+(k:Int)) = .str (G k)):((List.range n).map λ(i:Nat)=>V.int (lo+(i:Int))).map (fI F)=((List.range n).map G).map V.str:=by
 rw[A1K,A1K]
 refine A2V λk hk=>?_
 exact h k (A38.mp hk)
theorem Ue:LL.length<=sizeLine:=by rw[at5,A14];omega
theorem ExtBut.off {d q:Addr}{H H1 H2:Hp}(e:ExtBut d H H1)(hq:H q=none)(e2:ExtBut q H1 H2):ExtBut d H H2:=λb o n h=>e2 b o (ne_of_none h hq) (e b o n h)
theorem Same.off {q:Addr}{H H1 H2:Hp}(e:Same H H1)(hq:H q=none)(e2:ExtBut q H1 H2):Same H H2:=λb o h=>e2 b o (ne_of_none h hq) (e b o h)
theorem Kc {α:Type}{l:List α}{i:Nat}{y:α}(h:i<l.length):l[i]? = some (l.getD i y):=by rw[A3M,A08 h];rfl
inductive Way (ps:List (Str×Str)):Str->Str->Prop
 | one {x y:Str}:(x,y)∈ps->Way ps x y
 | cons {x z y:Str}:(x,z)∈ps->Way ps z y->Way ps x y
theorem Way.trans {ps:List (Str×Str)}{x y z:Str}(h:Way ps x y)(g:Way ps y z):Way ps x z:=by
 induction h with
 | one e=>exact .cons e g
 | cons e _ ih=>exact .cons e (ih g)
theorem Way.snoc {ps:List (Str×Str)}{x y z:Str}(h:Way ps x y)(g:(y,z)∈ps):Way ps x z:=h.trans (.one g)
theorem Way.left {ps:List (Str×Str)}{x y:Str}(h:Way ps x y):x∈ps.map (·.1):=by
 cases h with
 | one e=>exact A0I.mpr ⟨_,e,rfl⟩
 | cons e _=>exact A0I.mpr ⟨_,e,rfl⟩
theorem Way.right {ps:List (Str×Str)}{x y:Str}(h:Way ps x y):y∈ps.map (·.2):=by
 induction h with
 | one e=>exact A0I.mpr ⟨_,e,rfl⟩
 | cons _ _ ih=>exact ih
theorem Way.mono {ps qs:List (Str×Str)}(h:∀ p∈ps,p∈qs){x y:Str}(g:Way ps x y):Way qs x y:=by
 induction g with
 | one e=>exact .one (h _ e)
 | cons e _ ih=>exact .cons (h _ e) ih
theorem Way.shut {ps:List (Str×Str)}{S:Str->Prop}{x:Str}(h0:∀ y,(x,y)∈ps->S y)(h1:∀ z y,S z->(z,y)∈ps->S y){y:Str}(g:Way ps x y):S y:=by
 induction g with
 | one e=>exact h0 _ e
 | cons e _ ih=>exact ih λy hy=>h1 _ _ (h0 _ e) hy
theorem Sq (ls:List Str):PyData.eqv (.list (ls.map PyData.str)) (.list [])=ls.isEmpty:=by
 cases ls<;>simp[PyData.eqv,PyData.eqvAll]
mutual
def Bx:PyData->Bool
 | .none=>true
 | .bool _=>true
 | .str x=>PyData.strOk x
 | .list ds=>Gn ds
 | .tuple ds=>Gn ds
 | _=>false
def Gn:List PyData->Bool
 | []=>true
 | d :: ds=>Bx d&&Gn ds
end
mutual
theorem Ke:∀ d:PyData,Bx d=true->d.canLay0=true
 | .none,_=>by simp only[PyData.canLay0]
 | .bool _,_=>by simp only[PyData.canLay0]
 | .str x,h=>by simpa only[PyData.canLay0,Bx] using h
 | .list ds,h=>by simp only[PyData.canLay0];exact Le ds (by simpa only[Bx] using h)
 | .tuple ds,h=>by simp only[PyData.canLay0];exact Le ds (by simpa only[Bx] using h)
 | .int _,h=>by simp[Bx] at h
 | .dict _,h=>by simp[Bx] at h
theorem Le:∀ ds:List PyData,Gn ds=true->PyData.canLayAll0 ds=true
 | [],_=>by simp only[PyData.canLayAll0]
 | d :: ds,h=>by
   simp only[Gn,Bool.and_eq_true] at h
   simp only[PyData.canLayAll0,Ke d h.1,Le ds h.2,Bool.and_self]
end
mutual
theorem Wj:∀ d:PyData,Bx d=true->d.showable=true
 | .none,_=>by simp only[PyData.showable]
 | .bool _,_=>by simp only[PyData.showable]
 | .str x,h=>by simp only[PyData.showable]
 | .list ds,h=>by simp only[PyData.showable];exact Nq ds (by simpa only[Bx] using h)
 | .tuple ds,h=>by simp only[PyData.showable];exact Nq ds (by simpa only[Bx] using h)
 | .int _,h=>by simp[Bx] at h
 | .dict _,h=>by simp[Bx] at h
theorem Nq:∀ ds:List PyData,Gn ds=true->PyData.showableAll ds=true
 | [],_=>by simp only[PyData.showableAll]
 | d :: ds,h=>by
   simp only[Gn,Bool.and_eq_true] at h
   simp only[PyData.showableAll,Wj d h.1,Nq ds h.2,Bool.and_self]
end
mutual
theorem Pt:∀ d:PyData,Bx d=true->d.intsShort 13=true
 | .none,_=>by simp only[PyData.intsShort]
 | .bool _,_=>by simp only[PyData.intsShort]
 | .str x,h=>by simp only[PyData.intsShort]
 | .list ds,h=>by simp only[PyData.intsShort];exact Jw ds (by simpa only[Bx] using h)
 | .tuple ds,h=>by simp only[PyData.intsShort];exact Jw ds (by simpa only[Bx] using h)
 | .int _,h=>by simp[Bx] at h
 | .dict _,h=>by simp[Bx] at h
theorem Jw:∀ ds:List PyData,Gn ds=true->PyData.intsShortAll 13 ds=true
 | [],_=>by simp only[PyData.intsShortAll]
 | d :: ds,h=>by
   simp only[Gn,Bool.and_eq_true] at h
   simp only[PyData.intsShortAll,Pt d h.1,Jw ds h.2,Bool.and_self]
end
structure Fine (d:PyData):Prop where
 plain:Bx d=true
 deep:d.depth<=60
 light:d.weight<=1000000
theorem Fine.sh {d:PyData}(h:Fine d)(hd:ag8 d=true):Sh d:=by
 refine⟨hd,Wj d h.plain,?_,A0L h.deep ∅⟩
 have h2:=PyData.shown_le 13 ∅ d (PyData.leavesShort_of_canLay0 13 d (Ke d h.plain) (Pt d h.plain))
 have:=h.light
 rw[A14]
 omega
theorem Fine.shaped {d:PyData}(h:Fine d):SeqAt.shaped d=true:=by
 unfold SeqAt.shaped
 rw[Ke d h.plain,A0S (A0L h.deep ∅)]
 rfl
theorem Sa {z:Str}(h:Tyq z=true):PyData.strOk z=true/\z.cps.size<=8:=by
 unfold Tyq at h
 simp only[Bool.and_eq_true,decide_eq_true_eq] at h
 refine⟨?_,h.1.2⟩
 unfold PyData.strOk
 rw[<- Array.all_toList,A1W]
 intro c hc
 have:=A1W.mp h.2 c hc
 unfold Lo at this
 simp only[Bool.and_eq_true,decide_eq_true_eq] at this
 exact A0S (by omega)
theorem Jd {α:Type}(f:α->PyData):∀ xs:List α,(∀ a∈xs,Bx (f a)=true)->Gn (xs.map f)=true
 | [],_=>by simp only[List.map_nil,Gn]
 | x :: xs,h=>by simp only[List.map_cons,Gn,h x List.mem_cons_self,Jd f xs λa ha=>h a (List.mem_cons_of_mem _ ha),Bool.and_self]
theorem Ir {α:Type}(f:α->PyData)(n:Nat):∀ xs:List α,(∀ a∈xs,(f a).depth<=n)->PyData.depthAll (xs.map f)<=n
 | [],_=>by simp only[List.map_nil,PyData.depthAll];omega
 | x :: xs,h=>by
   have h1:=h x A0V
   have h2:=Ir f n xs λa ha=>h a (A0C _ ha)
   simp only[List.map_cons,PyData.depthAll]
   omega
theorem Lb {α:Type}(f:α->PyData)(n:Nat):∀ xs:List α,(∀ a∈xs,(f a).weight<=n)->PyData.weightAll (xs.map f)<=xs.length*(n+1)
 | [],_=>by simp only[List.map_nil,PyData.weightAll];omega
 | x :: xs,h=>by
   have h1:=h x A0V
   have h2:=Lb f n xs λa ha=>h a (A0C _ ha)
   simp only[List.map_cons,PyData.weightAll,List.length_cons,Nat.add_mul]
   omega
theorem M9 {p:Str×Str}(h1:Tyq p.1=true)(h2:Tyq p.2=true):Bx (prD p)=true/\(prD p).depth<=1/\(prD p).weight<=18:=by
 have a:=Sa h1
 have b:=Sa h2
 refine⟨by simp only[prD,Bx,Gn,a.1,b.1,Bool.and_self],by simp only[prD,PyData.depth,PyData.depthAll];omega,?_⟩
 simp only[prD,PyData.weight,PyData.weightAll]
 omega
theorem Vx {ns:List Str}(h:∀ z∈ns,Tyq z=true):Bx (nmD ns)=true/\(nmD ns).depth<=1/\(nmD ns).weight<=ns.length*9:=by
 refine⟨by simp only[nmD,Bx];exact Jd _ ns λz hz=>by simp only[Bx];exact(Sa (h z hz)).1,?_,?_⟩
 . simp only[nmD,PyData.depth]
   have:=Ir PyData.str 0 ns λz hz=>by simp only[PyData.depth];omega
   omega
 simp only[nmD,PyData.weight]
 exact Lb PyData.str 8 ns λz hz=>by simp only[PyData.weight];exact(Sa (h z hz)).2
def NmP (ps:List (Str×Str)):Prop:=∀ p∈ps,Tyq p.1=true/\Tyq p.2=true
theorem aa0 {ps:List (Str×Str)}(h:NmP ps):Bx (psD ps)=true/\(psD ps).depth<=2/\(psD ps).weight<=ps.length*19:=by
 refine⟨by simp only[psD,Bx];exact Jd _ ps λz hz=>(M9 (h z hz).1 (h z hz).2).1,?_,?_⟩
 . simp only[psD,PyData.depth]
   have:=Ir prD 1 ps λz hz=>(M9 (h z hz).1 (h z hz).2).2.1
   omega
 simp only[psD,PyData.weight]
 exact Lb prD 18 ps λz hz=>(M9 (h z hz).1 (h z hz).2).2.2
theorem an8 {ns:List Str}(h:∀ z∈ns,Tyq z=true)(hl:ns.length<=1000):Fine (nmD ns):=let ⟨a,b,c⟩:=Vx h;⟨a,by omega,by omega⟩
theorem Z7 {ns:List Str}{ps:List (Str×Str)}(h:∀ z∈ns,Tyq z=true)(g:NmP ps)(hn:ns.length<=1000)(hl:ps.length<=1000):Fine (hfD ns ps):=by
 obtain⟨a,b,c⟩:=Vx h
 obtain⟨a',b',c'⟩:=aa0 g
 refine⟨by simp only[hfD,Bx,Gn,a,a',Bool.and_self],?_,?_⟩
 . simp only[hfD,PyData.depth,PyData.depthAll]
   omega
 simp only[hfD,PyData.weight,PyData.weightAll]
 omega
theorem ad8 {ns:List Str}(h:∀ z∈ns,PyData.strOk z=true):SeqAt.shaped (.list (ns.map PyData.str))=true:=by
 unfold SeqAt.shaped
 have e:(PyData.list (ns.map PyData.str)).canLay0=true:=Ke _ (by simp only[Bx];exact Jd _ ns λz hz=>by simp only[Bx];exact h z hz)
 have e2:(PyData.list (ns.map PyData.str)).depth<=64:=by
  simp only[PyData.depth]
  have:=Ir PyData.str 0 ns λz hz=>by simp only[PyData.depth];omega
  omega
 rw [e,A0S e2]
 rfl
theorem Cr {α:Type}[DecidableEq α]:∀ {xs ys:List α},xs.Nodup->(∀ x∈xs,x∈ys)->xs.length<=ys.length
 | [],_,_,_=>A3J _
 | x :: xs,ys,h,hs=>by
   rw[A13] at h
   have hx:x∈ys:=hs x A0V
   have ih:=Cr (xs:=xs) (ys:=ys.erase x) h.2 λz hz=>by
    refine(List.mem_erase_of_ne ?_).mpr (hs z (A0C _ hz))
    intro e
    subst e
    exact h.1 hz
   rw[List.length_erase_of_mem hx] at ih
   have:0<ys.length:=List.length_pos_of_mem hx
   rw[A0Z]
   omega
section
variable {c:TT}{tb:TS}{D:Ends}{σ:St}{H:Hp}
theorem Ya (W:Nat->St->Hp->Prop)(m:Nat)(h0:W m σ H)
  (hs:∀ m σ H,W m σ H->c σ H λb H1=>if b=true then ∃ N:St->Hp->Prop,(∀ σ' H',N σ' H'->∃ m',m'<m/\W m' σ' H')/\tb { D with nx:=N,ct:=N,bk:=D.nx } σ H1 else D.nx σ H1):ag1 c tb D σ H:=⟨W,⟨m,h0⟩,hs⟩
theorem ag5 {W:Nat->St->Hp->Prop}{m:Nat}(h:tb { D with nx:=fun σ' H'=>∃ m',m'<m/\W m' σ' H',ct:=fun σ' H'=>∃ m',m'<m/\W m' σ' H',bk:=D.nx } σ H) :
  ∃ N:St->Hp->Prop,(∀ σ' H',N σ' H'->∃ m',m'<m/\W m' σ' H')/\tb { D with nx:=N,ct:=N,bk:=D.nx } σ H:=⟨_,λ_ _ h=>h,h⟩
end
section
variable {X:Cx}{K:PySem.W.Frag}
def Ui:V->List V->Hp->VK->Prop:=λx vs H Q=>∃ d o kvs more,x = .ref d/\vs=[.ref o]/\d≠o/\H d=some (.dK kvs)/\H o=some (.dK more)/\kvs.length+more.length<=1000000/\Q .non (upd H d (.dK (Gd kvs more)))
theorem Y0:MtM X "dict.update" Ui:=by
 intro pins s σ H x vs v us Q I rx rv h
 obtain⟨d,o,kvs,more,rfl,rfl,hdo,hD,hO,hz,q⟩:=h
 cases rx
 obtain⟨u,rfl,ru⟩:=rv.one
 cases ru
 obtain⟨z1,hd1,vs1,rel1,dd1⟩:=Rl I.hok hD
 obtain⟨z2,hd2,vs2,rel2,dd2⟩:=Rl I.hok hO
 have l1:kvs.length=vs1.length:=rel1.length
 have l2:more.length=vs2.length:=rel2.length
 refine A2X F.slot_dict_update dd1.typeIs F.entry_dict_update (F.args_dict_update_2 _ _) (meets_dict_update (Ar X.prog X.w) d o hdo hd2) ⟨vs1,vs2,dd1,dd2,Aa (by omega),λh' dd' _ hs=>?_⟩
 have he:∃ q,h'.get? d=some q:=let ⟨q,_,_,hq,_⟩:=dd';⟨q,hq⟩
 refine⟨.non,_,Nd I (by rw[hD];exact A1G) hs he (Sg ?_ hd1 (KV.merge rel2 rel1) dd'),rfl,q⟩
 have:=Fv more kvs
 exact Aa (by omega)
end
theorem Na:entryFor table "dict.update.loop" = some Builtin.«dict.update.loop»:=entryFor_of_tree (by kernel_rfl)
theorem Hu:plainId "dict.update.loop" = true:=by decide +kernel
theorem Ti:typeLookup (.type "list") "keys" = pure none:=by rw[typeLookup_type,builtinLookup_eq_fast];kernel_rfl
section
variable {prog:Program}{w:World}{κ:Type}[DecidableEq κ]{knd:KeyKind prog w κ}{A:Around}{E:Value->Shared->Prop}{s:Shared}
theorem a56 {a:Addr}{xs:Array Value}{k:Nat}{Q:Option Value->Shared->Prop}(hx:s.heap.get? a=some { cls:=.type "list",data:=.seq xs k })(hA:A.handled=none)
  (h:∀ h' tk,(∀ b o,s.heap.get? b=some o->h'.get? b=some o)->Q none { s with heap:=h',toks:=tk }):wpAny (model prog w) A (getAttr? (.ref a) "keys") Q E s:=by
 obtain⟨hp,g,d,tk,os⟩:=s
 have hT:∀ tk',(⟨hp,g,d,tk',os⟩:Shared).TypeIs (.ref a) "list":=λ_=>⟨_,hx,rfl⟩
 have f1:=sub_AttributeError
 have f3:=F.slot_list_getattribute.lookup
 have f4:=F.slot_list_getattribute.bind (.ref a)
 have f5:=am_list_getattr_none
 unfold getAttr? getAttrBy? getAttrBy
 repeat (any_goals (first | assumption | exact hT _ | ((with_reducible show wpAny _ _ (call (Value.builtin "list.__getattribute__") _ _) _ _ _);refine A3V F.slot_list_getattribute (hT _) am_entry_list_getattribute (F.args_list_getattribute_2 _ _) (meets_getattribute_miss_list a xs k #[] "keys" _ Ti (by decide +kernel) (by rw[A14];decide +kernel)) ⟨hx,hA,λh' tk' e hx'=>?_⟩) | wp_step))
 obtain⟨t',u',he⟩:=hx'.there
 show wpAny _ _ (getattributeRaised _ _ _ _ _ _ _) _ _ _
 unfold getattributeRaised
 repeat (any_goals (first | assumption | wp_step))
 exact h _ _ hx'.keeps
theorem Xg {t:Addr}{k v:Value}{Q:List Value->Shared->Prop}(ht:IsTup s.heap t #[k,v])(h:Q [k,v] s):wpAny (model prog w) A (Builtin.Dict.pairItems (.ref t)) Q E s:=by
 obtain⟨o,ho,hc,n,hd⟩:=ht
 unfold Builtin.Dict.pairItems
 refine A01 (A49 ⟨o,ho,hc⟩ ?_)
 rw[A11 ∅]
 refine A01 (wpAny_seqItems ho hd ?_)
 exact A06 h
theorem Yj {I D l:Addr}{items:Array Value}(hh:A.in1.handled=none)(hne:l≠I)(hDI:D≠I)(hDl:D≠l)(pk:List (κ×Value×Addr×Value))(hlen:pk.length=items.size)(hz:items.size<=1000000) :
  ∀(j i:Nat) (s:Shared) (R:Result->Shared->Prop),items.size-i=j->i<=items.size->s.heap.IsListIter I l i->s.heap.IsList l items ->
   s.heap.DictOf knd D (merged [] ((pk.take i).map λp=>(p.1,p.2.1))) ->
   (∀(n:Nat) (p:κ×Value×Addr×Value),pk[n]? = some p->items[n]? = some (Value.ref p.2.2.1)/\p.2.2.1≠I/\p.2.2.1≠D/\IsTup s.heap p.2.2.1 #[p.2.2.2,p.2.1]/\knd.is p.1 p.2.2.2=true) ->
   (∀ h' tk,h'.DictOf knd D (merged [] (pk.map λp=>(p.1,p.2.1)))->(∀ b o,b≠D->b≠I->s.heap.get? b=some o->h'.get? b=some o)->R (.ok (.ret .none)) { s with heap:=h',toks:=tk }) ->
   codeAny (model prog w) A (.builtin "dict.update.loop" ⟨[.ref D,.ref I,.int i 0,.none],[]⟩) R s:=by
 have W:=Walks.list (prog:=prog) (w:=w) hh I l hne items
 intro j
 induction j with
 | zero=>
   intro i s R hj hi hI hL hD hP hR
   have hin:i=items.size:=by omega
   subst hin
   refine A3K Na ?_
   rw[A3F Hu _]
   show wpAny _ A.in1 (pyNext (.ref I) >>= _) _ _ s
   refine A01 (W.done s _ _ ⟨hI,hL⟩ λh' tk hm=>?_)
   show wpAny _ A.in1 (Builtin.Dict.addKeywords D [] >>= _) _ _ _
   refine wpAny_bind (wpAny_pure (wpAny_pure (hR h' tk ?_ λb o hb hb' e=>hm b o (by simpa using hb') e)))
   rw[<- hlen,A17] at hD
   obtain⟨o,es,ep,ho,r⟩:=hD
   exact⟨o,es,ep,hm D o (by simpa using hDI) ho,r⟩
 | succ j ih=>
   intro i s R hj hi hI hL hD hP hR
   have hlt:i<items.size:=by omega
   obtain⟨p,hp⟩:∃ p,pk[i]? = some p:=⟨pk[i]'(by omega),A08 _⟩
   obtain⟨q1,q2,q3,q4,q5⟩:=hP i p hp
   refine A3K Na ?_
   rw[A3F Hu _]
   show wpAny _ A.in1 (pyNext (.ref I) >>= _) _ _ s
   refine A01 (W.item i s _ _ hlt ⟨hI,hL⟩ λv h' tk hv hst hm=>?_)
   have hv':v = .ref p.2.2.1:=by
    have hv2:items[i]? = some v:=hv
    rw[q1] at hv2
    exact(A0R hv2).symm
   subst hv'
   have ht':IsTup h' p.2.2.1 #[p.2.2.2,p.2.1]:=by
    obtain⟨o,ho,r⟩:=q4
    exact⟨o,hm _ o (by simpa using q2) ho,r⟩
   have hD':h'.DictOf knd D (merged [] ((pk.take i).map λp=>(p.1,p.2.1))):=by
    obtain⟨o,es,ep,ho,r⟩:=hD
    exact⟨o,es,ep,hm D o (by simpa using hDI) ho,r⟩
   show wpAny _ A.in1 (holding [Value.ref p.2.2.1] _ >>= _) _ _ _
   refine A01 (A1F ?_)
   refine A01 (wpAny_tryCatch (Xg ht' ?_))
   show wpAny _ A.in1 (holding [p.2.2.2,p.2.1] (dictSet D p.2.2.2 p.2.1)) _ _ _
   refine A1F (wpAny_dictSet_pairs q5 hD' (λh'' hD'' hs=>?_) ?_)
   . refine A06 ⟨plainId_quiet Hu _,?_⟩
     have hkeep:∀ b o,b≠D->b≠I->s.heap.get? b=some o->h''.get? b=some o:=λb o h1 h2 e=>(hs.2 b h1).trans (hm b o (by simpa using h2) e)
     refine ih (i+1) _ R (by omega) hlt ?_ ?_ ?_ (λn p' hp'=>?_) λh3 tk3 hD3 hk3=>hR h3 tk3 hD3 λb o h1 h2 e=>hk3 b o h1 h2 (hkeep b o h1 h2 e)
     . exact hst.1.at λo e=>(hs.2 I (Ne.symm hDI)).trans e
     . exact hst.2.at λo e=>(hs.2 l (Ne.symm hDl)).trans e
     . have e:merged [] ((pk.take (i+1)).map λp=>(p.1,p.2.1))=stored (merged [] ((pk.take i).map λp=>(p.1,p.2.1))) p.1 p.2.1:=by
        rw[A12,hp]
        unfold merged
        rw[A0G,List.foldl_append]
        rfl
       rw[e]
       exact hD''
     obtain⟨a1,a2,a3,⟨o,ho,r⟩,a5⟩:=hP n p' hp'
     exact⟨a1,a2,a3,⟨o,hkeep _ o a3 a2 ho,r⟩,a5⟩
   refine A0L (merged_length_le _ _) (Aa ?_)
   rw[A00,A16]
   simp
   omega
theorem Mw {l:Addr}{items:Array Value}{n:Nat}{Q:Value->Shared->Prop}(hl:s.heap.get? l=some { cls:=.type "list",data:=.seq items n })(hA:A.handled=none)(pk:List (κ×Value×Addr×Value))(hlen:pk.length=items.size)(hz:items.size<=1000000)
  (hP:∀(n:Nat) (p:κ×Value×Addr×Value),pk[n]? = some p->items[n]? = some (Value.ref p.2.2.1)/\IsTup s.heap p.2.2.1 #[p.2.2.2,p.2.1]/\knd.is p.1 p.2.2.2=true)
  (h:∀ h' tk,h'.DictOf knd s.heap.objs.size (merged [] (pk.map λp=>(p.1,p.2.1)))->(∀ b o,s.heap.get? b=some o->h'.get? b=some o)->Q (.ref s.heap.objs.size) { s with heap:=h',toks:=tk }) :
  wpAny (model prog w) A (call (.type "dict") [.ref l]) Q E s:=by
 refine callType_codes (Q₁:=λobj s₁=>obj = .ref s.heap.objs.size/\s₁={ s with heap:=s.heap.push { cls:=.type "dict",data:=.dict #[] } }) F.kt_called_dict (F.kt_typeCall_dict_1 _) F.entry_dict_init (kt_code_dict_new _ ⟨rfl,rfl⟩) ?_
 rintro obj s₁ ⟨rfl,rfl⟩
 have hnew:(s.heap.push { cls:=.type "dict",data:=.dict #[] }).DictOf knd s.heap.objs.size []:=Heap.DictOf.new s.heap
 have hl':(s.heap.push { cls:=.type "dict",data:=.dict #[] }).get? l=some { cls:=.type "list",data:=.seq items n }:=A02 _ hl
 have hll:l<s.heap.objs.size:=A09 hl
 refine⟨hnew.typeIs,F.args_dict_init_2 _ _,?_⟩
 unfold Builtin.«dict.__init__»
 refine A01 ?_
 unfold Builtin.Dict.selfAndRest
 refine A01 (wpAny_notOrdered_dict hnew.typeIs ?_)
 show wpAny _ _ (pure (s.heap.objs.size,[Value.ref l])) _ _ _
 refine A06 ?_
 show wpAny _ _ (Builtin.Dict.updateFrom "dict.__init__" s.heap.objs.size (.ref l) [] .none) _ _ _
 unfold Builtin.Dict.updateFrom
 refine A01 (A49 ⟨_,hl',rfl⟩ ?_)
 rw[A11 ∅]
 refine wpAny_bind (a56 hl' (by simpa using hA) λh1 tk1 hk1=>?_)
 have hl1:h1.get? l=some { cls:=.type "list",data:=.seq items n }:=hk1 _ _ hl'
 rw[A11 (show(none:Option Value).isNone=true from rfl)]
 have hD1:h1.DictOf knd s.heap.objs.size []:=by
  obtain⟨o,es,ep,ho,r⟩:=hnew
  exact⟨o,es,ep,hk1 _ _ ho,r⟩
 have hsz:s.heap.objs.size<h1.objs.size:=by
  obtain⟨o,es,ep,ho,r⟩:=hD1
  exact A09 ho
 refine A01 (wpAny_rule ?_)
 have hL1:h1.IsList l items:=⟨_,hl1,rfl,n,rfl⟩
 refine A01 (A3W hL1 ?_)
 refine A06 ⟨plainId_quiet Hu _,?_⟩
 have kp:∀ b o,s.heap.get? b=some o->(h1.push { cls:=.type "list_iterator",data:=.fields #[.ref l,.int 0 0] }).get? b=some o:=λb o e=>A02 _ (hk1 _ _ (A02 _ e))
 refine Yj (knd:=knd) (A:=A.in1) (I:=h1.objs.size) (D:=s.heap.objs.size) (l:=l) (items:=items) (by simpa using hA) (Nat.ne_of_lt (Nat.lt_trans hll hsz)) (Nat.ne_of_lt hsz) (Nat.ne_of_gt hll) pk hlen hz items.size 0 _ _ (Nat.sub_zero _) (Nat.zero_le _) ⟨_,Heap.get?_push_size _ rfl,rfl,rfl⟩ (hL1.push _) ?_ (λm p hp=>?_) λh' tk hD hk=>?_
 . exact hD1.push _
 . obtain⟨a1,⟨o,ho,r⟩,a3⟩:=hP m p hp
   have hlt:=A09 ho
   exact⟨a1,A0J (Nat.lt_trans hlt hsz),A0J hlt,⟨o,kp _ _ ho,r⟩,a3⟩
 refine⟨rfl,h h' tk hD λb o e=>?_⟩
 have hlt:=A09 e
 exact hk b o (A0J hlt) (A0J (Nat.lt_trans hlt hsz)) (kp b o e)
end
def PrsK (K:PySem.W.Frag)(H:Hp):List (Key×V)->List V->Prop
 | [],ys=>ys=[]
 | kv :: r,ys=>∃ t ys',ys = .ref t :: ys'/\SqT K H t [kV kv.1,kv.2]/\PrsK K H r ys'
theorem PrsK.pk {X:Cx}{pins:List (Addr×Obj)}{σ:St}{H:Hp}{s:Shared}(I:Inv X pins σ H s):∀(kvs:List (Key×V)) (ys:List V) (its:List Value),PrsK X.K H kvs ys->Vals ys its ->
  ∃ pk:List (Key×Value×Addr×Value),pk.length=its.length/\KV kvs (pk.map λp=>(p.1,p.2.1))/\∀(n:Nat) (p:Key×Value×Addr×Value),pk[n]? = some p->its[n]? = some (Value.ref p.2.2.1)/\IsTup s.heap p.2.2.1 #[p.2.2.2,p.2.1]/\(Ar X.prog X.w).is p.1 p.2.2.2=true
 | [],ys,its,h,v=>by
   have h':ys=[]:=h
   subst h'
   cases v
   exact ⟨[],rfl,.nil,λn p hp=>by simp at hp⟩
 | kv :: r,ys,its,h,v=>by
   obtain⟨t,ys',rfl,h2,h3⟩:=h
   cases v with
   | cons v1 v2=>
     obtain⟨pk,l1,l2,l3⟩:=PrsK.pk I r ys' _ h3 v2
     cases v1
     obtain ⟨its2,rv,ht,_⟩:=I.tuple h2
     obtain⟨key,val,rfl,a1,a3⟩:=Vals.two rv
     refine⟨(kv.1,val,t,key) :: pk,by simp[l1],.cons ⟨rfl,a3⟩ l2,λn p hp=>?_⟩
     cases n with
     | zero=>
       have:p=(kv.1,val,t,key):=(Option.some.inj (by simpa using hp)).symm
       subst this
       exact⟨rfl,ht,Op a1⟩
     | succ n=>exact l3 n p (by simpa using hp)
section
variable {X:Cx}{K:PySem.W.Frag}
def Yy (K:PySem.W.Frag):List V->Hp->VK->Prop:=λxs H Q=>∃ l ys kvs,xs=[V.ref l]/\H l=some (.lst ys)/\PrsK K H kvs ys/\ys.length<=1000000/\kvs.length<=1000000/\∀ p,H p=none->Q (.ref p) (upd H p (.dK (Gd [] kvs)))
theorem Xe (hr:X.A.handled=none):CallR X (.type "dict") (Yy X.K):=by
 intro pins s σ H xs us Q I rv h
 obtain⟨l,ys,kvs,rfl,hl,hp,hz,hz2,q⟩:=h
 obtain⟨u,rfl,ru⟩:=rv.one
 cases ru
 obtain⟨z,its,n,r,hlen,e⟩:=I.lstM hl
 obtain⟨pk,l1,l2,l3⟩:=PrsK.pk I kvs ys its hp r
 refine Mw (knd:=Ar X.prog X.w) e hr pk (by simpa using l1) (by simp;omega) (λn p hp=>?_) λh' tk hD hk=>?_
 . obtain⟨a1,a2,a3⟩:=l3 n p hp
   exact⟨by simpa using a1,a2,a3⟩
 refine⟨.ref s.heap.objs.size,_,I.laid hk (A07 _) (Sg ?_ ?_ (KV.merge l2 .nil) hD),rfl,q _ (I.hok.fresh (A07 _))⟩
 . have:=Fv kvs []
   exact Aa (by simpa using Nat.le_trans this (by simpa using hz2))
 exact A0W.mpr (A3N I.big)
theorem Wp (hr:X.A.handled=none)(hK:X.K=K:=by ac_nf):CallR X (.type "dict") (Yy K):=hK ▸ Xe hr
end
def L3 (ns:List Str)(as:List Addr):List (Key×V):=(ns.zip as).map λp=>(Sum.inr p.1,V.ref p.2)
def L1 (ks:List Str):List (Key×V):=ks.map λy=>(Sum.inr y,V.bl true)
theorem Ma:∀ {ns:List Str} {as:List Addr} {i:Nat} {z:Str} {a:Addr},ns.Nodup->ns[i]? = some z->as[i]? = some a->Dj (L3 ns as) (Sum.inr z:Key)=some (.ref a)
 | [],_,i,_,_,_,h,_=>by simp at h
 | n :: ns,[],i,_,_,_,_,h=>by simp at h
 | n :: ns,b :: as,0,z,a,_,h,g=>by
   simp at h g
   subst h g
   exact Bj rfl
 | n :: ns,b :: as,i+1,z,a,hn,h,g=>by
   rw[A13] at hn
   have h':ns[i]? = some z:=by simpa using h
   have ne:¬ (Sum.inr n:Key)=Sum.inr z:=by
    intro e
    have e2:n=z:=by injection e
    subst e2
    exact hn.1 (A04 h')
   show Dj ((Sum.inr n,V.ref b) :: L3 ns as) _=_
   rw[B9 ne]
   exact Ma hn.2 h' (by simpa using g)
theorem Vw (y:Str):∀ ks:List Str,Dj (L1 ks) (Sum.inr y:Key)=if y∈ks then some (.bl true) else none
 | []=>by simp[L1,ab6]
 | k :: ks=>by
   show Dj ((Sum.inr k,V.bl true) :: L1 ks) _=_
   by_cases e:k=y
   . subst e
     rw[Bj rfl,A11 A0V]
   rw[B9 (by intro q;injection q with q;exact e q),Vw y ks]
   have:(y∈k :: ks)↔y∈ks:=by simp[Ne.symm e]
   simp only[this]
def a68 (ks:List Str)(y:Str):List Str:=if y∈ks then ks else ks++[y]
theorem mem_addK {ks:List Str}{y z:Str}:z∈a68 ks y↔z∈ks\/z=y:=by
 unfold a68
 split
 . constructor
   . exact .inl
   rintro(h | rfl)
   . exact h
   assumption
 simp
theorem Qf {ks:List Str}{y:Str}(h:ks.Nodup):(a68 ks y).Nodup:=by
 unfold a68
 split
 . exact h
 rename_i hy
 rw[A2P]
 refine⟨h,by simp,λa ha b hb e=>?_⟩
 have:b=y:=by simpa using hb
 subst this
 subst e
 exact hy ha
theorem aj4 (y:Str)(ks:List Str):((L1 ks).any λkv=>decide (kv.1=(Sum.inr y:Key)))=decide (y∈ks):=by
 induction ks with
 | nil=>simp[L1]
 | cons k ks ih=>
   show(decide ((Sum.inr k:Key)=Sum.inr y)||(L1 ks).any _)=_
   rw[ih]
   by_cases e:k=y
   . subst e;simp
   have e':¬ (Sum.inr k:Key)=Sum.inr y:=by intro q;injection q with q;exact e q
   simp[e',Ne.symm e]
theorem a08 (ks:List Str)(y:Str):Hl (L1 ks) (Sum.inr y:Key) (.bl true)=L1 (a68 ks y):=by
 unfold Hl a68
 rw[aj4]
 by_cases h:y∈ks
 . rw[A11 (A0S h),A11 h]
   unfold L1
   rw[A1K]
   refine A2V λk _=>?_
   show(if(Sum.inr k:Key)=Sum.inr y then(Sum.inr k,V.bl true) else(Sum.inr k,V.bl true))=_
   split<;>rfl
 rw[if_neg (by simpa using h),if_neg h]
 unfold L1
 rw[A0G]
 rfl
def Dk (ks ms:List Str):List Str:=ms.foldl a68 ks
theorem Ry:∀(ms ks:List Str),Gd (L1 ks) (L1 ms)=L1 (Dk ks ms)
 | [],ks=>rfl
 | m :: ms,ks=>by
   show Gd (Hl (L1 ks) (Sum.inr m) (.bl true)) (L1 ms)=_
   rw[a08,Ry ms]
   rfl
theorem mem_addAll:∀ {ms ks:List Str} {z:Str},z∈Dk ks ms↔z∈ks\/z∈ms
 | [],ks,z=>by simp[Dk]
 | m :: ms,ks,z=>by
   show z∈Dk (a68 ks m) ms↔_
   rw[mem_addAll,mem_addK,A0K,or_assoc]
theorem J0:∀ {ms ks:List Str},ks.Nodup->(Dk ks ms).Nodup
 | [],ks,h=>h
 | m :: ms,ks,h=>J0 (ms:=ms) (Qf h)
theorem Uu (ks:List Str):(L1 ks).length=ks.length:=by simp[L1]
theorem T0:∀(kvs acc:List (Key×V)),(kvs.map (·.1)).Nodup->(∀ k∈kvs,∀ q∈acc,q.1≠k.1)->Gd acc kvs=acc++kvs
 | [],acc,_,_=>by simp[Gd]
 | k :: kvs,acc,hn,hd=>by
   show Gd (Hl acc k.1 k.2) kvs=_
   have e:Hl acc k.1 k.2=acc++[k]:=by
    unfold Hl
    have:¬ (acc.any λkv=>decide (kv.1=k.1))=true:=by
     rw[A1P]
     rintro⟨q,hq,e⟩
     exact hd k A0V q hq (of_decide_eq_true e)
    rw[A0Y this]
   rw[A0X,A13] at hn
   rw[e,T0 kvs (acc++[k]) hn.2 λx hx q hq=>?_,List.append_assoc]
   . rfl
   rcases A0B.mp hq with hq | hq
   . exact hd x (A0C _ hx) q hq
   have:q=k:=by simpa using hq
   subst this
   intro e
   exact hn.1 (A0I.mpr ⟨x,hx,e.symm⟩)
structure Tab (H:Hp)(r:Addr)(ns:List Str)(as:List Addr)(R:Str->Str->Prop):Prop where
 len:as.length=ns.length
 nd:as.Nodup
 nr:r∉as
 top:H r=some (.dK (L3 ns as))
 row:∀(i:Nat) (z:Str) (a:Addr),ns[i]? = some z->as[i]? = some a->∃ ks:List Str,H a=some (.dK (L1 ks))/\ks.Nodup/\(∀ y∈ks,y∈ns)/\∀ y,y∈ks↔R z y
theorem Tab.same {H H':Hp}{r:Addr}{ns:List Str}{as:List Addr}{R:Str->Str->Prop}(h:Tab H r ns as R)(e:Same H H'):Tab H' r ns as R:=
 ⟨h.len,h.nd,h.nr,e _ _ h.top,λi z a hz ha=>let ⟨ks,h1,h2⟩:=h.row i z a hz ha;⟨ks,e _ _ h1,h2⟩⟩
theorem Tab.congr {H:Hp}{r:Addr}{ns:List Str}{as:List Addr}{R R':Str->Str->Prop}(h:Tab H r ns as R)(e:∀ z∈ns,∀ y,R z y↔R' z y):Tab H r ns as R':=
 ⟨h.len,h.nd,h.nr,h.top,λi z a hz ha=>let ⟨ks,h1,h2,h3,h4⟩:=h.row i z a hz ha;⟨ks,h1,h2,h3,λy=>(h4 y).trans (e z (A04 hz) y)⟩⟩
theorem Tab.put {H H':Hp}{r b:Addr}{ns:List Str}{as:List Addr}{R R':Str->Str->Prop}(h:Tab H r ns as R)(e:ExtBut b H H'){j:Nat}{x:Str}(hn:ns.Nodup)(hj:ns[j]? = some x)(hb:as[j]? = some b){ks:List Str}
  (hk:H' b=some (.dK (L1 ks))) (k1:ks.Nodup) (k2:∀ y∈ks,y∈ns) (k3:∀ y,y∈ks↔R' x y) (k4:∀ z∈ns,z≠x->∀ y,R z y↔R' z y):Tab H' r ns as R':=by
 refine⟨h.len,h.nd,h.nr,e _ _ (λq=>h.nr (q ▸ A04 hb)) h.top,λi z a hz ha=>?_⟩
 by_cases hij:i=j
 . subst hij
   rw[hz] at hj
   cases hj
   rw[ha] at hb
   cases hb
   exact⟨ks,hk,k1,k2,k3⟩
 obtain⟨ms,h1,h2,h3,h4⟩:=h.row i z a hz ha
 have hab:a≠b:=by
  intro q
  subst q
  obtain⟨p1,p2⟩:=A03.mp ha
  obtain⟨q1,q2⟩:=A03.mp hb
  exact hij ((A1V h.nd).mp (p2.trans q2.symm))
 have hzx:z≠x:=by
  intro q
  subst q
  obtain⟨p1,p2⟩:=A03.mp hz
  obtain⟨q1,q2⟩:=A03.mp hj
  exact hij ((A1V hn).mp (p2.trans q2.symm))
 exact⟨ms,e _ _ hab h1,h2,h3,λy=>(h4 y).trans (k4 z (A04 hz) hzx y)⟩
theorem Tab.at {H:Hp}{r:Addr}{ns:List Str}{as:List Addr}{R:Str->Str->Prop}(h:Tab H r ns as R){x:Str}(hx:x∈ns):∃(i:Nat) (a:Addr),ns[i]? = some x/\as[i]? = some a:=by
 obtain⟨i,hi,e⟩:=A2B hx
 have hi':i<as.length:=by rw[h.len];exact hi
 exact⟨i,as[i],by rw[A08 hi,e],A08 hi'⟩
section
variable {K:PySem.W.Frag}{H:Hp}{Q:VK}{r:Addr}{ns:List Str}{as:List Addr}{R:Str->Str->Prop}
theorem Qy {x:Str}{i:Nat}{a:Addr}(h:Tab H r ns as R)(hn:ns.Nodup)(hx:ns[i]? = some x)(ha:as[i]? = some a)(k:Q (.ref a) H):Xp K (.ref r) (.str x) H Q:=i_ixD h.top (Ma hn hx ha) k
theorem Rb {a:Addr}{ks:List Str}{y:Str}(h:H a=some (.dK (L1 ks)))(k:Q (.bl (decide (y∈ks))) H):a52 K false (.str y) (.ref a) H Q:=by
 refine .inr (.inr (.inl ⟨a,Dj (L1 ks) (Sum.inr y:Key),rfl,DGet.k (k:=Sum.inr y) h,?_⟩))
 rw[Vw]
 by_cases e:y∈ks
 . rw[if_pos e];simpa[e] using k
 rw[if_neg e];simpa[e] using k
theorem al1 {a:Addr}{kvs:List (Key×V)}{B:Prop}(h:H a=some (.dK kvs))(k:B):tyV K "dict" (.ref a) H/\B:=⟨.inr (.inr (.inl ⟨rfl,.inl ⟨kvs,h⟩⟩)),k⟩
theorem aF4 {d o:Addr}{ks ms:List Str}(hd:H d=some (.dK (L1 ks)))(ho:H o=some (.dK (L1 ms)))(hne:d≠o)(hz:ks.length+ms.length<=1000000)(k:∀ H',ExtBut d H H'->H' d=some (.dK (L1 (Dk ks ms)))->Q .non H'):Ui (.ref d) [.ref o] H Q:=
 ⟨d,o,_,_,rfl,rfl,hne,hd,ho,by rw[Uu,Uu];exact hz,k _ ExtBut.upd (by rw[Ad,Ry])⟩
end
structure HalfW (ns:List Str)(ps:List (Str×Str)):Prop where
 nd:ns.Nodup
 mem:∀ p∈ps,p.1∈ns/\p.2∈ns
 irr:∀ x,¬ Way ps x x
 few:ns.length<=100
 le:ps.length<=1000
structure War (ns:List Str)(ps:List (Str×Str))(ms:List Str)(R:Str->Str->Prop):Prop where
 snd:∀ z y,R z y->Way ps z y
 edge:∀ z y,(z,y)∈ps->R z y
 shut:∀ m∈ms,∀ z y,R z m->R m y->R z y
def ah2 (R:Str->Str->Prop)(mid:Str)(ms:List Str)(z y:Str):Prop:=R z y\/(z∈ms/\R z mid/\R mid y)
theorem War.step {ns:List Str}{ps:List (Str×Str)}{ms:List Str}{R:Str->Str->Prop}(h:War ns ps ms R){mid:Str}:War ns ps (ms++[mid]) (λz y=>R z y\/(R z mid/\R mid y)):=by
 refine⟨λz y hz=>?_,λz y hz=>.inl (h.edge z y hz),λm hm z y h1 h2=>?_⟩
 . rcases hz with hz | ⟨h1,h2⟩
   . exact h.snd z y hz
   exact(h.snd _ _ h1).trans (h.snd _ _ h2)
 rcases A0B.mp hm with hm | hm
 . rcases h1 with h1 | ⟨h1,h1'⟩
   . rcases h2 with h2 | ⟨h2,h2'⟩
     . exact .inl (h.shut m hm z y h1 h2)
     exact .inr ⟨h.shut m hm z mid h1 h2,h2'⟩
   rcases h2 with h2 | ⟨h2,h2'⟩
   . exact .inr ⟨h1,h.shut m hm mid y h1' h2⟩
   exact .inr ⟨h1,h2'⟩
 have e:m=mid:=by simpa using hm
 subst e
 rcases h1 with h1 | ⟨h1,h1'⟩
 . rcases h2 with h2 | ⟨h2,h2'⟩
   . exact .inr ⟨h1,h2⟩
   exact .inr ⟨h1,h2'⟩
 rcases h2 with h2 | ⟨h2,h2'⟩
 . exact .inr ⟨h1,h2⟩
 exact .inr ⟨h1,h2'⟩
theorem War.done {ns:List Str}{ps:List (Str×Str)}{R:Str->Str->Prop}(h:War ns ps ns R)(hm:∀ p∈ps,p.1∈ns/\p.2∈ns)(z y:Str):R z y↔Way ps z y:=by
 refine⟨h.snd z y,λg=>?_⟩
 induction g with
 | one e=>exact h.edge _ _ e
 | cons e _ ih=>exact h.shut _ (hm _ e).2 _ _ (h.edge _ _ e) ih
theorem PrsK.fz {K:PySem.W.Frag} {H H':Hp} (e:Fz H H'):∀ {kvs:List (Key×V)} {ys:List V},PrsK K H kvs ys->PrsK K H' kvs ys
 | [],_,h=>h
 | kv :: r,ys,⟨t,ys',h1,h2,h3⟩=>⟨t,ys',h1,e.seq h2,PrsK.fz e h3⟩
theorem PrsK.snoc {K:PySem.W.Frag}{H:Hp}{kv:Key×V}{t:Addr}(h:SqT K H t [kV kv.1,kv.2]):∀ {kvs:List (Key×V)} {ys:List V},PrsK K H kvs ys->PrsK K H (kvs++[kv]) (ys++[.ref t])
 | [],ys,g=>by
   have g':ys=[]:=g
   subst g'
   exact⟨t,[],rfl,h,rfl⟩
 | k :: r,ys,⟨u,ys',h1,h2,h3⟩=>by
   subst h1
   exact⟨u,ys'++[.ref t],rfl,h2,PrsK.snoc h h3⟩
theorem PrsK.length {K:PySem.W.Frag}{H:Hp}:∀ {kvs:List (Key×V)} {ys:List V},PrsK K H kvs ys->ys.length=kvs.length
 | [],ys,g=>by
   have g':ys=[]:=g
   subst g'
   rfl
 | k :: r,ys,⟨u,ys',h1,h2,h3⟩=>by
   subst h1
   simp[PrsK.length h3]
theorem ar4 {K:PySem.W.Frag}{H:Hp}{Q:VK}{l:Addr}{ys:List V}{kvs:List (Key×V)}(h:H l=some (.lst ys))(g:PrsK K H kvs ys)(hz:kvs.length<=1000000)(k:∀ p H',H p=none->Same H H'->H' p=some (.dK (Gd [] kvs))->Q (.ref p) H'):Yy K [.ref l] H Q:=
 ⟨l, ys,kvs,rfl,h,g,by rw[g.length];exact hz,hz,λp hp=>k p _ hp (Same.upd hp) Ad⟩
theorem Vp:∀ {ns:List Str} {as:List Addr},ns.Nodup->((L3 ns as).map (·.1)).Nodup
 | [],as,_=>by simp[L3]
 | n :: ns,[],_=>by simp[L3]
 | n :: ns,a :: as,h=>by
   rw[A13] at h
   show((Sum.inr n:Key) :: (L3 ns as).map (·.1)).Nodup
   rw[A13]
   refine⟨λhm=>?_,Vp h.2⟩
   obtain⟨kv,hkv,e⟩:=A0I.mp hm
   obtain⟨p,hp,rfl⟩:=A0I.mp hkv
   have e':p.1=n:=by injection e
   exact h.1 (e' ▸ (A2Y hp).1)
theorem Vz {ns:List Str}{as:List Addr}{z:Str}{a:Addr}(h:ns.length=as.length):L3 (ns++[z]) (as++[a])=L3 ns as++[(Sum.inr z,V.ref a)]:=by
 unfold L3
 rw[List.zip_append h,A0G]
 rfl
end L2
namespace L2
open PySem PySem.Spec PyProof.Rows
open Classical in
def Ka (ps:List (Str×Str))(x y:Str):Bool:=decide (Way ps x y)
theorem wayB_iff {ps:List (Str×Str)} {x y:Str}:Ka ps x y=true↔Way ps x y:=by unfold Ka;simp
theorem am7 {ps:List (Str×Str)}{x y:Str}{b:Bool}(h:b=true↔Way ps x y):b=Ka ps x y:=by
 cases hb:Ka ps x y with
 | true=>exact h.mpr (wayB_iff.mp hb)
 | false=>
   cases b with
   | false=>rfl
   | true=>
     have:=wayB_iff.mpr (h.mp rfl)
     rw[hb] at this
     cases this
theorem Qu {ps:List (Str×Str)}{x y:Str}{p:Prop}[Decidable p](h:p↔Way ps x y):decide p=Ka ps x y:=am7 (by rw[decide_eq_true_iff];exact h)
theorem iteR {α:Type}{a:α}{A B:Prop}[Decidable (a=a)](h:A):if decide (a=a)=true then A else B:=by rw[A11 nofun];exact h
theorem iteNR {α:Type}{a:α}{A B:Prop}[Decidable (a=a)](h:B):if(!decide (a=a))=true then A else B:=by rw[A0Y nofun];exact h
section
variable {K:PySem.W.Frag}{H:Hp}{σ:St}{x:V}{Q:VK}
theorem Yx {ns:List Str}{g:TG}{tt:TT}{te:TE}{k:Nat}{js:List Nat}(h:Is K H (nmD ns) x)(t:Str->Bool)(f:Str->PyData)(hf:∀ a,frz (f a)=true)(hz:ns.length<=1000000)
  (hs:∀(i:Nat) a H1 (R:VK) (R':Hp->Prop),ns[i]? = some a->Same H H1->(t a=true->∀ y H2,Same H1 H2->Is K H2 (f a) y->R y H2)->(t a=false->∀ H2,Same H1 H2->R' H2) ->
   g (.str a) (List.replicate k none++Po σ js) H1 fun σ2 H2=>tt σ2 H2 λb H3=>if b=true then te σ2 H3 R else R' H3)
  (hd:∀ p ys H',H p=none->Same H H'->H' p=some (.lst ys)->IsL K H' ((ns.filter t).map f) ys->Q (.ref p) H'):Kg K x H λJ H1=>Uw k js g tt te σ J H1 Q:=by
 obtain⟨a,rfl,hS⟩:=h.nm
 refine Pc hS (Gj (K:=K) (Fb (xs:=ns.map V.str)) ns nofun t f hf (by simpa using hz) (λH' e=>e.seqT hS) (λi z v H1 R R' hz hv e hR hR'=>?_) hd)
 rw[A0A,hz] at hv
 cases hv
 exact hs i z H1 R R' hz e hR hR'
theorem a55 {ps:List (Str×Str)}{a:Addr}{ys:List V}(h:H a=some (.lst ys))(g:IsL K H (ps.map prD) ys)(k:∀ v H',Same H H'->Is K H' (psD ps) v->Q v H'):Mu K [.ref a] H Q:=
 Fs (SqL.of h) λp H' hp e h'=>k _ H' e (Is.of_tup (SqT.of h') (IsL.mono e _ _ g))
end
end L2
namespace L2
open PySem PySem.Spec PyProof.Rows
open AutoSeq1 (wpAny_loadPart')
section
variable {prog:Program}{w:World}{A:Around}{E:Value->Shared->Prop}{s:Shared}
theorem ao2 {it t:Addr}{i:Nat}{items:Array Value}{x:Value}{Q:Value->Shared->Prop}(hit:s.heap.IsTupleIter it t i)(ht:s.heap.IsTuple t items)(hx:items[i]? = some x)
  (hQ:∀ h',h'.IsTupleIter it t (i+1)->Heap.SameBut it s.heap h'->Q x { s with heap:=h' }):wpAny (model prog w) A (Builtin.SmallTypes.nextOf (.ref it)) Q E s:=by
 obtain⟨o,o1,o2,o3⟩:=id hit
 obtain⟨u,u1,_,n,u2⟩:=ht
 unfold Builtin.SmallTypes.nextOf
 refine A01 (A2Z (name:=Str.ofString "__next__") hit.typeIs F.slot_tuple_iterator_next (A3C F.slot_tuple_iterator_next hit.typeIs F.entry_tuple_iterator_next ?_ (F.args_tuple_iterator_next_1 _)))
 refine A01 (m:=field (.ref it) 0) (A28 o1 o3 (x:=.ref t) rfl ?_)
 rw[A0Y (show ¬ ((Value.ref t==Value.none)=true) by intro h;cases h)]
 refine A01 (m:=field (.ref it) 1) (A28 o1 o3 (x:=.int i 0) rfl ?_)
 refine A01 (m:=seqItems? (.ref t)) (wpAny_seqItems u1 u2 ?_)
 simp only[Int.toNat_natCast,hx]
 refine A01 (A4I o1 o3 nofun (A06 ⟨x,rfl,A06 (hQ _ ⟨_,A1X _ o1 (A2J (A32 o3 _)),(Obj.cls_mapFields ..).trans o2,?_⟩ (Heap.SameBut.update ..))⟩))
 rw[A32 o3]
 simp[rawInt]
theorem as2 {it t:Addr}{i:Nat}{items:Array Value}{Q:Value->Shared->Prop}(hh:A.handled=none)(hit:s.heap.IsTupleIter it t i)(ht:s.heap.IsTuple t items)(hx:items[i]? = none)
  (hE:∀ h' e,Heap.ExtBut it s.heap h'->(∃ o,h'.get? e=some o/\o.cls = .type "StopIteration")->E (.ref e) { s with heap:=h' }):wpAny (model prog w) A (Builtin.SmallTypes.nextOf (.ref it)) Q E s:=by
 obtain⟨o,o1,o2,o3⟩:=id hit
 obtain⟨u,u1,_,n,u2⟩:=ht
 unfold Builtin.SmallTypes.nextOf
 refine A01 (A2Z (name:=Str.ofString "__next__") hit.typeIs F.slot_tuple_iterator_next (A3C F.slot_tuple_iterator_next hit.typeIs F.entry_tuple_iterator_next ?_ (F.args_tuple_iterator_next_1 _)))
 refine A01 (m:=field (.ref it) 0) (A28 o1 o3 (x:=.ref t) rfl ?_)
 rw[A0Y (show ¬ ((Value.ref t==Value.none)=true) by intro h;cases h)]
 refine A01 (m:=field (.ref it) 1) (A28 o1 o3 (x:=.int i 0) rfl ?_)
 refine A01 (m:=seqItems? (.ref t)) (wpAny_seqItems u1 u2 ?_)
 simp only[Int.toNat_natCast,hx]
 refine A01 (wpAny_rule (A01 (A4I o1 o3 nofun ?_)))
 refine A01 (m:=newExc (.type "StopIteration") []) ?_
 simp only[newExc,newTuple]
 refine A01 (A23 ?_ (by size_fits))
 refine wpAny_bind (m:=firstArgMember _ _) (wpAny_of_eq (a:=Value.none) (by first | rfl | (simp only[firstArgMember];rfl)) (wpAny_newObj_type ?_ (by size_fits)))
 simp only[raiseNew]
 refine A01 (wpAny_handled ?_)
 first | rw[show A.in1.handled=none from hh] | rw[hh]
 refine A01 (A06 (wpAny_throw (hE _ _ (((Heap.SameBut.update ..).extBut.push _).push _) ⟨_,A0E _ rfl,rfl⟩)))
theorem af4 (hh:A.handled=none)(it t:Addr)(hne:t≠it)(items:Array Value):Draws prog w A it [it,t] items.size (λi v=>items[i]? = some v) (λi h=>h.IsTupleIter it t i/\h.IsTuple t items) where
 live:=λ_ _ q=>let ⟨o,ho,_⟩:=q.1;⟨o,ho⟩
 frame:=λ_ _ _ q hk=>⟨q.1.at λo e=>hk it nofun o e,let ⟨o,ho,r⟩:=q.2;⟨o,hk t nofun o ho,r⟩⟩
 item:=λi s Q E hi q hQ=>ao2 q.1 q.2 (x:=items[i]) (by simp[hi]) λh' a b=>hQ _ h' s.toks (by simp[hi]) ⟨a,q.2.extBut b.extBut hne⟩ b
 done:=λs Q E q hE=>as2 hh q.1 q.2 nofun hE
theorem Uc (l:Addr)(items:Array Value)(n:Nat)(dct:Option Addr)(sl:Array (Option Value)) :
  Meets (Builtin.«enumerate.__new__» ⟨[.type "enumerate",.ref l],[]⟩) (λ_ R s=>s.heap.get? l=some { cls:=.type "tuple",dict:=dct,data:=.seq items n,slots:=sl } /\
   R (.ok (.ret (.ref (s.heap.push { cls:=.type "tuple_iterator",data:=.fields #[.ref l,.int 0 0] }).objs.size)))
    { s with heap:=(s.heap.push { cls:=.type "tuple_iterator",data:=.fields #[.ref l,.int 0 0] }).push { cls:=.type "enumerate",data:=.fields #[.none,.bool false,.ref s.heap.objs.size,rawInt 0,.none,.none] } }):=
 .of_wp λprog w A R s h=>by
  obtain⟨hp,g,d,tk,os⟩:=s
  obtain⟨hl,h⟩:=h
  have hsub:=sub_enumerate
  have hT:Heap.IsTuple (Shared.heap ⟨hp,g,d,tk,os⟩) l items:=⟨_,hl,rfl,n,rfl⟩
  wp_walk using wpAny_loadPart' hl
  refine wpAny_stack_any λst=>A06 ?_
  split
  . rename_i c _ _ _ _ _
    cases (c==Value.type "enumerate")<;>(wp_walk using wpAny_loadPart' hl,A31 hT;exact⟨_,rfl,h⟩)
  wp_walk using wpAny_loadPart' hl,A31 hT
  exact⟨_,rfl,h⟩
theorem Xk {l:Addr}{items:Array Value}{Q:Value->Shared->Prop}(hL:s.heap.IsTuple l items)
  (h:∀ h',IsEnum h' (s.heap.objs.size+1) s.heap.objs.size 0 .none->h'.IsTupleIter s.heap.objs.size l 0->(∀ b o,s.heap.get? b=some o->h'.get? b=some o)->Q (.ref (s.heap.objs.size+1)) { s with heap:=h' }) :
  wpAny (model prog w) A (call (.type "enumerate") [.ref l]) Q E s:=by
 obtain⟨⟨c,dct,dt,sl⟩,hl,hc,n,hd⟩:=hL
 replace hc:c = .type "tuple":=hc
 replace hd:dt = .seq items n:=hd
 subst hc hd
 refine callType_new F.called_enumerate ∅ (F.typeCall_enumerate_1 _) (F.newCall_enumerate_1 _) (λobj=>F.args_object_init_2 obj _) F.entry_enumerate_new (Uc l items n dct sl) ⟨hl,?_⟩
 have hz:(s.heap.push { cls:=.type "tuple_iterator",data:=.fields #[.ref l,.int 0 0] }).objs.size=s.heap.objs.size+1:=A1S ..
 show _/\_
 have he:=A0E (s.heap.push { cls:=.type "tuple_iterator",data:=.fields #[.ref l,.int 0 0] }) (o:={ cls:=.type "enumerate",data:=.fields #[.none,.bool false,.ref s.heap.objs.size,rawInt 0,.none,.none] }) rfl
 rw[hz] at he ⊢
 exact⟨⟨_,he,rfl⟩,h _ he ⟨_,A02 _ (A0E _ rfl),rfl,rfl⟩ λb o x=>A02 _ (A02 _ x)⟩
end
theorem Inv.turnedL {X:Cx}{pins:List (Addr×Obj)}{σ:St}{H:Hp}{s:Shared}{h':Heap}{t':Nat}{ch:List Addr}(I:Inv X pins σ H s)(k:∀ b o,b∉ch->s.heap.get? b=some o->h'.get? b=some o)(hf:∀ b∈ch,Wk X pins H b):Inv X pins σ H { s with heap:=h',toks:=t' }:=by
 have nit:∀ b u,H b=some u->b∉ch:=λb u e z=>by rw[(hf b z).1] at e;cases e
 refine I.step (g':=s.gens) (d':=s.drawn) (ch:=ch) (λb hb=>?_) (λb o _ _ hc e _=>k b o hc e) (λb o _ _ hc e _=>⟨o.slots,k b o hc e⟩) (λ_ _ _ _ n=>n)
  (λb o hc e=>⟨o,k b o hc e⟩) (λ_ _ e=>e) (λ_ _ _ e=>e) (λb ps e=>⟨#[],by rw[e];simp⟩) (λm hm=>?_) (λb u e=>?_) I.bare
 . obtain⟨_,h2,_,h4,h5,h6⟩:=hf b hb
   exact⟨h4,h2,h5,h6⟩
 . obtain⟨o,es,ep,ho,r⟩:=hm
   exact⟨o,es,ep,k _ o (λz=>(hf _ z).2.1 rfl) ho,r⟩
 refine(I.hok b u e).stay (λc v hc q=>k c v ?_ q) (λ_ q=>q) λ_ _ q=>q
 rcases hc with z | z
 . rw[z];exact nit b u e
 exact nit c _ z
def Ite (K:PySem.W.Frag)(a:Addr):It:=
 ⟨λi H=>∃ xs x,SqT K H a xs/\xs[i]? = some x,λi H v H'=>∃ t x,H t=none/\H'=upd H t (.tup [.int i,x])/\v = .ref t/\∀ xs,SqT K H a xs->xs[i]? = some x,λi H=>∃ xs,SqT K H a xs/\xs.length=i⟩
theorem a61 {P:Program}{w:World}{K:PySem.W.Frag}{elts:List Expr}{ek:Nat}{epos:Pos}(a it e:Addr)(hei:e≠it)(hai:a≠it)(hae:a≠e):aa7 P w K (.Tuple elts ek epos) (Ite K a) [e,it] e (λi h=>(∃ old,IsEnum h e it i old)/\h.IsTupleIter it a i) where
 mem:=by simp
 obj:=λi h st b hb=>by
  obtain⟨⟨old,h1⟩,o,h2,h3,h4⟩:=st
  rcases A0K.mp hb with rfl | hb
  . exact⟨_,h1,λv z=>by cases z⟩
  have q:b=it:=by simpa using hb
  subst q
  exact⟨o,h2,λv z=>by rw[h4] at z;cases z⟩
 keep:=λi h h' st k=>by
  obtain⟨⟨old,h1⟩,h2⟩:=st
  exact⟨⟨old,k e nofun _ h1⟩,h2.at λo q=>k it nofun o q⟩
 item:=by
  intro X hP hw hK hc i pins s σ H E I hf st hg
  subst hP hw hK
  obtain⟨xs,x,hq,hx⟩:=hg
  obtain⟨its,rv,p,hz⟩:=I.tuple hq
  have hil:i<its.length:=by
   have:=(A03.mp hx).1
   rw[<- rv.length]
   exact this
  have D:=af4 (prog:=X.prog) (w:=X.w) (A:=X.A.in1) (by simpa using I.ok.hd hc) it a hai its.toArray
  obtain⟨⟨old,he⟩,hit⟩:=st
  have hel:e<s.heap.objs.size:=A09 he
  have hil':it<s.heap.objs.size:=let ⟨_,q,_⟩:=hit;A09 q
  refine wpAny_pyNext_enum_itemD D he ⟨hit,p⟩ (by simpa using hil) hei (by simp[hei,Ne.symm hae]) λv h1 tk hv ho hst hT hsz hk=>?_
  obtain⟨u,hu,ru⟩:=rv.get hx
  have hvu:v=u:=by
   have hv':its.toArray[i]? = some v:=hv
   rw[A4D,hu] at hv'
   exact(A0R hv').symm
  subst hvu
  refine⟨_,rfl,wpAny_letOwnedTupleGo_enum ho λh2 he2 hs2=>?_⟩
  have hTn:H s.heap.objs.size=none:=I.hok.fresh (A07 _)
  have hT2:h2.get? s.heap.objs.size=some { cls:=.type "tuple",data:=.seq #[.int i tk,v] }:=(hs2.2 _ (A3N hel)).trans hT
  have I1:Inv X pins σ (upd H s.heap.objs.size (.tup [.int i,x])) { s with heap:=s.heap.push { cls:=.type "tuple",data:=.seq #[.int i tk,v] } }:=
   I.laid (t':=s.toks) (λb ob q=>Heap.get?_push_of_some _ q) (Nat.le_refl _) ⟨by simp[sizeLine_eq],[.int i tk,v],.cons ⟨tk,rfl⟩ (.cons ru .nil),_,Heap.get?_push_size _ rfl,rfl,⟨_,rfl⟩,rfl⟩
  have nT:∀ b∈[e,it],b≠s.heap.objs.size:=λb hb=>by
   rcases A0K.mp hb with rfl | hb
   . exact A0J hel
   have q:b=it:=by simpa using hb
   subst q
   exact A0J hil'
  have I2:Inv X pins σ (upd H s.heap.objs.size (.tup [.int i,x])) { s with heap:=h2,toks:=tk+1 }:=Inv.turnedL (s:={ s with heap:=s.heap.push { cls:=.type "tuple",data:=.seq #[.int i tk,v] } }) (ch:=[e,it]) I1 (λb ob hb q=>?_) (λb hb=>?_)
  . refine⟨.ref s.heap.objs.size,_,I2,rfl,⟨_,x,hTn,rfl,rfl,λys hy=>by rw[I.tuple_inj hy hq];exact hx⟩,⟨⟨_,by simpa using he2⟩,hst.1.at λo q=>(hs2.2 it (Ne.symm hei)).trans q⟩,λb hb=>?_⟩
    rw[Au (nT b hb)]
    exact(hf b hb).1
  . have hbe:b≠e:=λz=>hb (by simp[z])
    have hbi:b≠it:=λz=>hb (by simp[z])
    rcases Heap.get?_push_cases q with ⟨rfl,rfl⟩ | q
    . exact hT2
    exact(hs2.2 b hbe).trans (hk b ob hbe hbi q)
  obtain⟨f0,f1,f2,f3,f4,f5⟩:=hf b hb
  exact⟨by rw[Au (nT b hb)];exact f0,f1,f2,f3,f4,f5⟩
 done:=by
  intro X hP hw hK hc i pins s σ H E I hf st hg
  subst hP hw hK
  obtain⟨xs,hq,hx⟩:=hg
  obtain⟨its,rv,p,hz⟩:=I.tuple hq
  obtain⟨⟨old,he⟩,hit⟩:=st
  have hlen:its.toArray.size=i:=by rw[A0N,<- rv.length];exact hx
  have D:=af4 (prog:=X.prog) (w:=X.w) (A:=X.A.in1) (by simpa using I.ok.hd hc) it a hai its.toArray
  rw[hlen] at D
  refine wpAny_pyNext_enum_endD D he ⟨hit,p⟩ λh' hk=>⟨rfl,I.turnedL (t':=s.toks) (ch:=[e,it]) (λb o hb q=>hk b o (λz=>hb (by simp[z])) q) hf⟩
 self:=by
  intro A i s Q E st hQ
  obtain⟨⟨old,he⟩,_⟩:=st
  exact wpAny_pyIter_enum he hQ
section
variable {X:Cx}{K:PySem.W.Frag}
def a72 (K:PySem.W.Frag)(vs:List V)(H:Hp)(R:It->Hp->Prop):Prop:=∃ a xs,vs=[.ref a]/\SqT K H a xs/\R (Ite K a) H
def at7 (K:PySem.W.Frag)(ta:TA):TI:=fun σ H R=>ta σ H λvs H1=>a72 K vs H1 R
theorem Oj:bootBuiltins "enumerate" = some (.type "enumerate"):=PyProof.Rows.Boot.«enumerate»
theorem an2 {e:Expr}{ta:TA}{p pos:Pos}{elts:List Expr}{ek:Nat}{epos:Pos}(hg:Gl X "enumerate")(hm:X.mg "enumerate" = none)(ha:PA X [e] ta)(hK:X.K=K:=by ac_nf)(hs:starEach [e] X.env=[(false,eval e X.env)]:=by ac_nf) :
  PI X (.Tuple elts ek epos) (.Call (.Name "enumerate" p) [e] [] pos) (at7 K ta):=by
 subst hK
 intro pins s σ H R I h
 refine Call_ (Li I hg hm Oj (A1T (thn (ha pos pins s σ H _ I h) λus s1 ⟨vs,H1,I1,r1,q1⟩=>?_) hs rfl))
 obtain⟨a,xs,rfl,hq,q⟩:=q1
 obtain⟨u,rfl,ru⟩:=Vals.one r1
 cases ru
 obtain⟨its,rv,ht,hz⟩:=I1.tuple hq
 have hal:a<s1.heap.objs.size:=let ⟨_,q,_⟩:=ht;A09 q
 refine Xk ht λh' he hit hk=>?_
 refine wpAny_pyIter_enum he ?_
 refine⟨s1.heap.objs.size+1,[s1.heap.objs.size+1,s1.heap.objs.size],_,_,H1,rfl,I1.kept (t':=s1.toks) hk,a61 a s1.heap.objs.size (s1.heap.objs.size+1) (Nat.succ_ne_self _) (A0J hal) (A0J (A2Q hal)),⟨⟨_,he⟩,hit⟩,λb hb=>?_,q⟩
 rcases A0K.mp hb with rfl | hb
 . exact I1.fpOk (A20 _) (I1.hok.fresh (A20 _))
 have e:b=s1.heap.objs.size:=by simpa using hb
 subst e
 exact I1.fpOk (A07 _) (I1.hok.fresh (A07 _))
end
section
variable {K:PySem.W.Frag}{σ:St}{H:Hp}
theorem i_ienum {ts:TA}{R:It->Hp->Prop}(k:ts σ H λvs H1=>a72 K vs H1 R):at7 K ts σ H R:=k
theorem a80 {xs:List V}{a:Addr}{n m:Nat}{tb:TS}{D:Ends}(h:SqT K H a xs)(Pv:Nat->St->Hp->Prop)(h0:Pv 0 σ H)(hG:∀ i σ' H',Pv i σ' H'->SqT K H' a xs)
  (hs:∀ i x σ' H' H2,xs[i]? = some x->Pv i σ' H'->Same H' H2->tb { D with nx:=Pv (i+1),ct:=Pv (i+1),bk:=D.nx } ((σ'.set n (some (.int i))).set m (some x)) H2) (hd:∀ σ' H',Pv xs.length σ' H'->D.nx σ' H') :
  a72 K [.ref a] H λJ H1=>ak7 (al7 K 2 (Pi (Jv n) (Pi (Jv m) aq6))) tb D σ J H1:=by
 refine⟨a,xs,rfl,h,λi k σ' H'=>k=xs.length-i/\i<=xs.length/\Pv i σ' H',⟨xs.length,by simp,Nat.zero_le _,h0⟩,?_⟩
 rintro i k σ' H' ⟨rfl,hi,p⟩
 have g:=hG i σ' H' p
 by_cases hlt:i<xs.length
 . refine .inr ⟨⟨xs,xs[i],g,A08 hlt⟩,Pv (i+1),fun σ2 H2 p2=>⟨xs.length-(i+1),by omega,rfl,hlt,p2⟩,λv H2 y=>?_⟩
   obtain⟨t,x,ht,rfl,rfl,hx⟩:=y
   exact⟨t,_,rfl,SqT.of Ad,rfl,.int i,[x],rfl,x,[],rfl,rfl,hs i x σ' H' _ (hx xs g) p (Same.upd ht)⟩
 have e:i=xs.length:=by omega
 subst e
 exact .inl ⟨⟨xs,g,rfl⟩,hd σ' H' p⟩
theorem ai6 {ps:List (Str×Str)}{x:V}{n m:Nat}{tb:TS}{D:Ends}(h:Is K H (psD ps) x)(Pv:Nat->St->Hp->Prop)(h0:Pv 0 σ H)(hG:∀ i σ' H',Pv i σ' H'->Fz H H')
  (hs:∀ i p v σ' H' H2,ps[i]? = some p->Is K H2 (prD p) v->Pv i σ' H'->Same H' H2->tb { D with nx:=Pv (i+1),ct:=Pv (i+1),bk:=D.nx } ((σ'.set n (some (.int i))).set m (some v)) H2) (hd:∀ σ' H',Pv ps.length σ' H'->D.nx σ' H') :
  a72 K [x] H λJ H1=>ak7 (al7 K 2 (Pi (Jv n) (Pi (Jv m) aq6))) tb D σ J H1:=by
 obtain⟨a,xs,rfl,hS,hL⟩:=Is.tup h
 have hl:ps.length=xs.length:=by rw[<- IsL.length hL,A00]
 refine a80 hS Pv h0 (λi σ' H' p=>(hG i σ' H' p).seq hS) (λi v σ' H' H2 hv p e=>?_) fun σ' H' p=>hd σ' H' (by rw[<- hl] at p;exact p)
 obtain ⟨d,e1,e2⟩:=IsL.get (IsL.fz ((hG i σ' H' p).trans e.fz) _ _ (Lx ps) hL) hv
 rw[A0A] at e1
 cases hn:ps[i]? with
 | none=>rw[hn] at e1;cases e1
 | some z=>
   rw[hn] at e1
   cases e1
   exact hs i z v σ' H' H2 hn e2 p e
end
end L2
namespace L2
open PySem PySem.Spec PyProof.Rows
section
variable {X:Cx}{K:PySem.W.Frag}
section
variable {H:Hp}{Q:VK}{lo hi:Option Int}
theorem ae2 {a b:Addr}{xs ys:List V}(h1:SqT K H a xs)(h2:SqT K H b ys)(h:xs.length+ys.length<=sizeLine)(k:∀ p H',Same H H'->SqT K H' p (xs++ys)->Q (.ref p) H'):X7 K (.ref a) (.ref b) H Q:=by
 by_cases hx:xs=[]
 . subst hx
   exact .inr (.inr (.inr (.inr ⟨a,b,ys,rfl,rfl,h1,h2,k b H (Same.refl _) h2⟩)))
 refine .inr (.inr (.inr (.inl ⟨a,b,xs,ys,rfl,rfl,h1,h2,hx,h,λe=>?_,λ_ p hp=>k p _ (Same.upd hp) (SqT.of Ad)⟩)))
 subst e
 exact k a H (Same.refl _) (by rw[A2I];exact h1)
end
end
def jsD (js:List Nat):PyData:=.tuple (js.map λ(j:Nat)=>PyData.int (j:Int))
theorem ah6 (js:List Nat):frz (jsD js)=true:=by
 unfold jsD
 simp only[frz]
 exact Gh _ (λ_=>by simp[frz]) js
structure Trl (ps:List (Str×Str))(x:Str)(js:List Nat)(y:Str)(os:List Str):Prop where
 len:os.length=js.length
 hd:(os++[y])[0]? = some x
 ed:∀(i j:Nat),js[i]? = some j->∃ a b,(os++[y])[i]? = some a/\(os++[y])[i+1]? = some b/\ps[j]? = some (a,b)
 nd:(os++[y]).Nodup
theorem Trl.nil (ps:List (Str×Str))(x:Str):Trl ps x [] x []:=⟨rfl,rfl,λi j h=>by simp at h,by simp⟩
theorem Trl.snoc {ps:List (Str×Str)}{x y z:Str}{js:List Nat}{os:List Str}{j:Nat}(h:Trl ps x js y os)(hj:ps[j]? = some (y,z))(hz:z∉os++[y]):Trl ps x (js++[j]) z (os++[y]):=by
 refine⟨by simp[h.len],?_,λi k hk=>?_,?_⟩
 . rw[A1B nofun]
   exact h.hd
 . by_cases hi:i<js.length
   . rw[A1B hi] at hk
     obtain⟨a,b,h1,h2,h3⟩:=h.ed i k hk
     have l:=h.len
     refine⟨a,b,?_,?_,h3⟩
     . rw[List.getElem?_append_left (by simp;omega)]
       exact h1
     rw[List.getElem?_append_left (by simp;omega)]
     exact h2
   have hi':i=js.length:=by
    have:=(A03.mp hk).1
    rw[A0H,A18] at this
    omega
   subst hi'
   have e:k=j:=by simpa using hk.symm
   subst e
   have l:=h.len
   refine⟨y,z,?_,?_,hj⟩
   . rw[List.getElem?_append_left (by simp;omega),<- l]
     simp
   rw[<- l]
   simp
 rw[A2P]
 refine⟨h.nd,by simp,λa ha b hb e=>?_⟩
 have:b=z:=by simpa using hb
 subst this
 subst e
 exact hz ha
theorem Trl.way {ps:List (Str×Str)}:∀ {js:List Nat} {x y:Str} {os:List Str},Trl ps x js y os->x=y\/Way ps x y:=by
 intro js x y os h
 have l:=h.len
 suffices g:∀ i,i<=js.length->∀ z,(os++[y])[i]? = some z->z=x\/Way ps x z by
  rcases g js.length (Nat.le_refl _) y (by rw[<- l];simp) with e | e
  . exact .inl e.symm
  exact .inr e
 intro i
 induction i with
 | zero=>
   intro _ z hz
   rw[h.hd] at hz
   exact .inl (A0R hz).symm
 | succ i ih=>
   intro hi z hz
   obtain⟨j,hj⟩:∃ j,js[i]? = some j:=⟨js[i]'(by omega),A08 _⟩
   obtain⟨a,b,h1,h2,h3⟩:=h.ed i j hj
   rw[hz] at h2
   cases h2
   rcases ih (by omega) a h1 with e | e
   . subst e
     exact .inr (.one (A04 h3))
   exact .inr (e.snoc (A04 h3))
structure WyI (ps:List (Str×Str))(x:Str)(ks ws:List Str):Prop where
 nd:ks.Nodup
 has:x∈ks
 way:∀ y∈ks,y=x\/Way ps x y
 line:∀ z∈ws,z∈ks
 shut:∀ z∈ks,z∉ws->∀ y,(z,y)∈ps->y∈ks
 few:ws.length<=ks.length
theorem WyI.le {ps:List (Str×Str)}{x:Str}{ks ws:List Str}(h:WyI ps x ks ws):ks.length<=ps.length+1:=by
 have:=Cr (ys:=x :: ps.map (·.2)) h.nd λy hy=>by
  rcases h.way y hy with e | e
  . exact e ▸ A0V
  exact A0C _ e.right
 rwa[A0Z,A00] at this
structure WyJ (ps:List (Str×Str))(x here:Str)(ks ws gs ms:List Str)(i:Nat):Prop where
 nd:gs.Nodup
 way:∀ y∈gs,y=x\/Way ps x y
 line:∀ z∈ms,z∈gs
 keep:∀ z∈ks,z∈gs
 keepL:∀ z∈ws,z∈ms
 new:∀ z∈gs,z∈ks\/z∈ms
 seen:∀ j<i,∀ y,ps[j]? = some (here,y)->y∈gs
 len:gs.length+ws.length=ks.length+ms.length
theorem WyJ.le {ps:List (Str×Str)}{x here:Str}{ks ws gs ms:List Str}{i:Nat}(h:WyJ ps x here ks ws gs ms i):gs.length<=ps.length+1:=by
 have:=Cr (ys:=x :: ps.map (·.2)) h.nd λy hy=>by
  rcases h.way y hy with e | e
  . exact e ▸ A0V
  exact A0C _ e.right
 rwa[A0Z,A00] at this
theorem WyJ.step {ps:List (Str×Str)}{x here:Str}{ks ws gs ms:List Str}{i:Nat}{p:Str×Str}(h:WyJ ps x here ks ws gs ms i)(hh:here∈gs)(hp:ps[i]? = some p)(h1:p.1=here)(h2:p.2∉gs):WyJ ps x here ks ws (gs++[p.2]) (ms++[p.2]) (i+1):=by
 have hm:(here,p.2)∈ps:=by rw[<- h1];exact A04 hp
 refine⟨?_,λy hy=>?_,λz hz=>?_,λz hz=>A0T _ (h.keep z hz),λz hz=>A0T _ (h.keepL z hz),λz hz=>?_,λj hj y e=>?_,?_⟩
 . rw[A2P]
   refine⟨h.nd,by simp,λa ha b hb e=>?_⟩
   have:b=p.2:=by simpa using hb
   subst this
   subst e
   exact h2 ha
 . rcases A0B.mp hy with hy | hy
   . exact h.way y hy
   have:y=p.2:=by simpa using hy
   subst this
   rcases h.way here hh with rfl | hw
   . exact .inr (.one hm)
   exact .inr (hw.snoc hm)
 . rcases A0B.mp hz with hz | hz
   . exact A0T _ (h.line z hz)
   exact A0M _ hz
 . rcases A0B.mp hz with hz | hz
   . rcases h.new z hz with e | e
     . exact .inl e
     exact .inr (A0T _ e)
   exact .inr (A0M _ hz)
 . by_cases hji:j=i
   . subst hji
     rw[hp] at e
     cases e
     exact A0M _ nofun
   exact A0T _ (h.seen j (by omega) y e)
 rw[A0H,A0H,A18]
 have:=h.len
 omega
theorem WyJ.skip {ps:List (Str×Str)}{x here:Str}{ks ws gs ms:List Str}{i:Nat}{p:Str×Str}(h:WyJ ps x here ks ws gs ms i)(hp:ps[i]? = some p)(h1:p.1=here->p.2∈gs):WyJ ps x here ks ws gs ms (i+1):=by
 refine⟨h.nd,h.way,h.line,h.keep,h.keepL,h.new,λj hj y e=>?_,h.len⟩
 by_cases hji:j=i
 . subst hji
   rw[hp] at e
   cases e
   exact h1 rfl
 exact h.seen j (by omega) y e
theorem WyJ.done {ps:List (Str×Str)}{x here:Str}{ks ws gs ms:List Str}(I:WyI ps x ks (here :: ws))(h:WyJ ps x here ks ws gs ms ps.length):WyI ps x gs ms:=by
 refine⟨h.nd,h.keep x I.has,h.way,h.line,λz hz hm y hy=>?_,?_⟩
 . by_cases e:z=here
   . subst e
     obtain⟨j,hj,ej⟩:=A2B hy
     exact h.seen j hj y (by rw[A08 hj,ej])
   have hz':z∈ks:=by
    rcases h.new z hz with q | q
    . exact q
    exact absurd q hm
   refine h.keep y (I.shut z hz' (λq=>?_) y hy)
   rcases A0K.mp q with q | q
   . exact e q
   exact hm (h.keepL z q)
 have:=h.len
 have:=I.few
 rw[A0Z] at this
 omega
theorem WyI.all {ps:List (Str×Str)}{x:Str}{ks:List Str}(h:WyI ps x ks []){y:Str}(g:Way ps x y):y∈ks:=
 Way.shut (S:=λy=>y∈ks) (λy hy=>h.shut x h.has nofun y hy) (λz y hz hy=>h.shut z hz nofun y hy) g
theorem ak3 {ns:List Str}{as:List Addr}{z:Str}{a:Addr}(hz:z∉ns)(h:ns.length=as.length):Hl (L3 ns as) (Sum.inr z:Key) (.ref a)=L3 (ns++[z]) (as++[a]):=by
 rw[Vz h]
 unfold Hl
 rw[A0Y]
 rw[A1P]
 rintro⟨kv,hkv,e⟩
 obtain⟨p,hp,rfl⟩:=A0I.mp hkv
 have e':(Sum.inr p.1:Key)=Sum.inr z:=of_decide_eq_true e
 have e2:p.1=z:=by injection e'
 exact hz (e2 ▸ (A2Y hp).1)
theorem Hw:∀ {ns:List Str} {as:List Addr} {z:Str},z∉ns->Dj (L3 ns as) (Sum.inr z:Key)=none
 | [],_,_,_=>rfl
 | n :: ns,[],_,_=>rfl
 | n :: ns,a :: as,z,h=>by
   show Dj ((Sum.inr n,V.ref a) :: L3 ns as) _=_
   rw[B9 (by intro q;injection q with q;exact h (q ▸ A0V))]
   exact Hw λq=>h (A0C _ q)
section
variable {K:PySem.W.Frag}{σ:St}{H:Hp}{Q:VK}{td ty:TE}
def ae9 (ty:TE)(σ:St)(x:V)(H1:Hp)(Q:VK):Prop:=∃ a,x = .ref a/\IsD H1 a/\ty σ H1 λy H2=>∃ o,DGet H2 a y o/\Q (o.getD .non) H2
theorem i_dget1 (k:td σ H λx H1=>ae9 ty σ x H1 Q):ag6 td ty σ H Q:=k
theorem aC7 {a:Addr}{kvs:List (Key×V)}(h:H a=some (.dK kvs))(k:ty σ H λy H2=>∃ o,DGet H2 a y o/\Q (o.getD .non) H2):ae9 ty σ (.ref a) H Q:=⟨a,rfl,.inl ⟨kvs,.inl h⟩,k⟩
theorem aA9 {a:Addr}{kvs:List (Key×V)}{z:Str}(h:H a=some (.dK kvs))(k:Q ((Dj kvs (Sum.inr z:Key)).getD .non) H):∃ o,DGet H a (.str z) o/\Q (o.getD .non) H:=⟨_,DGet.k (k:=Sum.inr z) h,k⟩
theorem a91 {r:Addr}{ks:List Str}{ts:List Addr}{z:Str}(h:H r=some (.dK (L3 ks ts)))(hl:ts.length=ks.length)(k:Q (.bl (!decide (z∈ks))) H):a52 K true (.str z) (.ref r) H Q:=by
 refine .inr (.inr (.inl ⟨r,Dj (L3 ks ts) (Sum.inr z:Key),rfl,DGet.k (k:=Sum.inr z) h,?_⟩))
 by_cases e:z∈ks
 . obtain⟨i,hi,ei⟩:=A2B e
   have:(Dj (L3 ks ts) (Sum.inr z:Key)).isSome=true:=by
    suffices g:∀(ks:List Str) (ts:List Addr),ts.length=ks.length->z∈ks->(Dj (L3 ks ts) (Sum.inr z:Key)).isSome=true from g ks ts hl e
    intro ks
    induction ks with
    | nil=>intro ts _ h;cases h
    | cons c ks ih=>
      intro ts hl hm
      cases ts with
      | nil=>cases hl
      | cons t ts=>
        by_cases hc:c=z
        . subst hc
          show(Dj ((Sum.inr c,V.ref t) :: L3 ks ts) _).isSome=true
          rw[Bj rfl]
          rfl
        show(Dj ((Sum.inr c,V.ref t) :: L3 ks ts) _).isSome=true
        rw[B9 (by intro q;injection q with q;exact hc q)]
        refine ih ts (by simpa using hl) ?_
        rcases A0K.mp hm with q | q
        . exact absurd q.symm hc
        exact q
   rw[this]
   simpa[e] using k
 rw[Hw e]
 simpa[e] using k
theorem i_andV {ta tb:TE}(k:ta σ H λx H1=>∃ c,x = .bl c/\if c=true then tb σ H1 Q else Q (.bl false) H1):aw6 ta tb σ H Q:=k
theorem i_orV {ta tb:TE}(k:ta σ H λx H1=>∃ c,x = .bl c/\if c=true then Q (.bl true) H1 else tb σ H1 Q):aH9 ta tb σ H Q:=k
end
section
variable {K:PySem.W.Frag}{σ:St}{H:Hp}{Q:VK}{r:Addr}{ns:List Str}{as:List Addr}{R:Str->Str->Prop}
end
section
variable {K:PySem.W.Frag}{H:Hp}{σ:St}
end
section
variable {prog:Program}{w:World}{A:Around}{E:Value->Shared->Prop}{s:Shared}
end
section
variable {X:Cx}{K:PySem.W.Frag}
end
section
variable {K:PySem.W.Frag}{σ:St}{H:Hp}
end
section
variable {K:PySem.W.Frag} {H:Hp} {Q:VK}
end
theorem IsL.bl_eq {α:Type}{K:PySem.W.Frag}{H:Hp}{f:α->Bool}:∀ {as:List α} {vs:List V},IsL K H (as.map λa=>PyData.bool (f a)) vs->vs=(as.map f).map V.bl
 | [],vs,h=>by simp only[List.map_nil,IsL] at h;exact h
 | n :: ns,vs,h=>by
   simp only[List.map_cons,IsL,Is] at h
   obtain⟨v,r,rfl,rfl,e3⟩:=h
   rw[IsL.bl_eq e3]
   rfl
theorem ac7 {α:Type}{K:PySem.W.Frag}{H:Hp}{σ:St}{J:It}{xs:List V}{G:Hp->Prop}{g:TG}{te:TE}{Q:VK}{k:Nat}{js:List Nat}(hw:Ib J xs G)(as:List α)(hl:as.length=xs.length)(f:α->Bool)(hz:xs.length<=1000000)(hG:∀ H',Same H H'->G H')
  (hs:∀(i:Nat) a v H1 (R:VK),as[i]? = some a->xs[i]? = some v->Same H H1->(∀ H2,Same H1 H2->R (.bl (f a)) H2)->g v (List.replicate k none++Po σ js) H1 fun σ2 H2=>te σ2 H2 R)
  (hd:∀ p H',H p=none->Same H H'->SqL K H' p ((as.map f).map V.bl)->Q (.ref p) H'):Uw k js g aa2 te σ J H Q:=by
 refine Gj (K:=K) hw as hl (λ_=>true) (λa=>PyData.bool (f a)) (λ_=>rfl) hz hG (λi a v H1 R R' ha hv e hR hR'=>?_) (λp ys H' hp e h hL=>?_)
 . exact hs i a v H1 R ha hv e λH2 e2=>hR rfl _ H2 e2 an7
 rw[Ex] at hL
 have:=IsL.bl_eq hL
 subst this
 exact hd p H' hp e (SqL.of h)
section
variable {P:Program}{w:World}{κ:Type}[DecidableEq κ]{knd:KeyKind P w κ}{A:Around}{E:Value->Shared->Prop}{s:Shared}
end
section
variable {X:Cx}{pins:List (Addr×Obj)}{σ:St}{H:Hp}{s:Shared}{A:Around}
end
section
variable {prog:Program}{w:World}{A:Around}{E:Value->Shared->Prop}{s:Shared}
end
section
variable {X:Cx}{K:PySem.W.Frag}
end
def inS (ns:List Str):Key->Bool
 | .inr z=>decide (z∈ns)
 | .inl _=>false
theorem ad1 (ns:List Str)(z:Str)(k:Key):inS (ns++[z]) k=(inS ns k||decide (k=Sum.inr z)):=by
 cases k with
 | inl i=>simp[inS]
 | inr y=>
   simp only[inS,List.mem_append,List.mem_singleton,Bool.decide_or]
   congr 1
   simp
theorem Ug (ms:List Str)(z:Str):(Dk [] (ms++[z])).length=if inS ms (Sum.inr z)=true then(Dk [] ms).length else(Dk [] ms).length+1:=by
 unfold Dk
 rw[List.foldl_append]
 show(a68 (Dk [] ms) z).length=_
 unfold a68
 have e:(z∈Dk [] ms)↔z∈ms:=by rw[mem_addAll];simp
 by_cases h:z∈ms
 . rw[if_pos (e.mpr h),if_pos (by simpa[inS] using h)]
   rfl
 rw[if_neg (λq=>h (e.mp q)),if_neg (by simpa[inS] using h),List.length_append,List.length_singleton]
 rfl
theorem Sz:∀ ms:List Str,(Dk [] ms).length<=ms.length:=λms=>by
 have g:=Cr (ys:=ms) (J0 (ms:=ms) (ks:=[]) nofun) λz hz=>by
  rcases mem_addAll.mp hz with h | h
  . cases h
  exact h
 exact g
section
variable {P:Program}{w:World}{A:Around}{R:Result->Shared->Prop}{it:Addr}{fp wr:List Addr}{G:Array GenState->Array GenState->Prop}{n:Nat}{PV:Nat->Value->Prop}{St:Nat->Shared->Prop}
theorem Y1 (z:Str)(t:Tok):(Ar P w).is (Sum.inr z) (.str z t)=true:=by
 show Pj (Sum.inr z) (.str z t)=true
 simp[Pj,Value.isStrOf]
theorem a89 (W:WalksS P w A.in1 it fp wr G n PV St)(D:Addr)(hD:D∉fp)(ns:List Str)(hval:∀ i v,PV i v->∃ z t,ns[i]? = some z/\v = .str z t)(hb:n+1<scanBound)(hn:ns.length=n) :
  ∀(k i:Nat) (s:Shared),n-i=k->i<=n->St i s->s.heap.SetOf (Ar P w) D (inS (ns.take i)) (Dk [] (ns.take i)).length ->
   (∀ s',Moved (D :: wr) G s s'->s'.heap.SetOf (Ar P w) D (inS ns) (Dk [] ns).length->R (.ok (.ret .none)) s') ->
   codeAny (model P w) A (.builtin "set.update.loop" ⟨[.ref D,.ref it],[]⟩) R s:=by
 have hDw:D∉wr:=λh=>hD (W.sub _ h)
 have sub:∀ b∈wr,b∈D :: wr:=λb h=>.tail _ h
 have stays:∀ {s s':Shared} {f:Key->Bool} {m:Nat},Moved wr G s s'->s.heap.SetOf (Ar P w) D f m->s'.heap.SetOf (Ar P w) D f m:=λhm ⟨o,es,ep,t,ho,r⟩=>⟨o,es,ep,t,hm.heap D _ hDw ho,r⟩
 intro k
 induction k with
 | zero=>
   intro i s hk hi st hS hR
   obtain rfl:i=n:=by omega
   rw[A47 (by omega)] at hS
   refine A3K F.entry_set_update_loop ?_
   rw[A3F F.plain_set_update_loop]
   refine A01 (m:=pyNext (.ref it)) (W.done s _ _ st λs' hm=>?_)
   show wpAny _ _ (ret Value.none) _ _ _
   exact A06 (hR s' (hm.mono sub) (stays hm hS))
 | succ k ih=>
   intro i s hk hi st hS hR
   have hlt:i<n:=by omega
   refine A3K F.entry_set_update_loop ?_
   rw[A3F F.plain_set_update_loop]
   refine A01 (m:=pyNext (.ref it)) (W.item i s _ _ hlt st λv s' hv st' hm=>?_)
   obtain⟨z,t,hz,rfl⟩:=hval i v hv
   have ht:ns.take (i+1)=ns.take i++[z]:=by rw[A12,hz];rfl
   refine A01 (m:=holding _ (setAdd D (.str z t))) (A1F ?_)
   unfold setAdd
   refine A1F (A01 ((Ar P w).pyHash (Y1 z t) ?_))
   have hle:=Sz (ns.take i)
   rw[A16] at hle
   refine wpAny_setAddHashed_of (s:={ s' with toks:=s'.toks+1 }) (Y1 z t) rfl (show s'.heap.SetOf _ _ _ _ from stays hm hS) (by omega) λh' hsb hS2=>?_
   have hS3:h'.SetOf (Ar P w) D (inS (ns.take (i+1))) (Dk [] (ns.take (i+1))).length:=by
    rw[ht,Ug,show inS (ns.take i++[z])=λk'=>inS (ns.take i) k'||decide (k'=Sum.inr z) from funext (ad1 _ _)]
    exact hS2
   refine A06 ⟨plainId_quiet F.plain_set_update_loop _,ih (i+1) _ (by omega) hlt (W.frame _ s' _ _ st' (A20 _) λb hb o e=>?_) hS3 λs2 hm2 hS4=>?_⟩
   . have hbD:b≠D:=λq=>hD (q ▸ hb)
     exact(hsb.2 b hbD).trans e
   refine hR s2 (Moved.trans W.gtrans ((hm.mono sub).then_heap (A20 _) λb o hb e=>?_) hm2) hS4
   have hbD:b≠D:=λq=>hb (by rw[q];exact A0V)
   exact(hsb.2 b hbD).trans e
end
theorem Ux:isSubtype (.type "tuple") (.type "set")=pure false:=by rw[isSubtype_type];kernel_rfl
theorem Ta:isSubtype (.type "tuple") (.type "frozenset")=pure false:=by rw[isSubtype_type];kernel_rfl
section
variable {prog:Program}{w:World}{A:Around}{E:Value->Shared->Prop}{s:Shared}
def Lg (led:Bool):Obj:={ cls:=.type "set",dict:=none,data:=.set #[] 0 (.fresh 0 0 led) }
def aB9 (prog:Program)(w:World)(s:Shared)(ns:List Str)(h':Heap):Prop:=h'.SetOf (Ar prog w) s.heap.objs.size (inS ns) (Dk [] ns).length/\∀ b o,b<s.heap.objs.size->s.heap.get? b=some o->h'.get? b=some o
set_option maxHeartbeats 3200000 in
theorem a04 {t:Addr}{its:List Value}{ns:List Str}{Q:Value->Shared->Prop}(hh:A.handled=none)(ht:s.heap.IsTuple t its.toArray)(hv:Vals (ns.map V.str) its)(hb:ns.length+1<scanBound)
  (h:∀(h':Heap) (k:Nat),aB9 prog w s ns h'->Q (.ref s.heap.objs.size) { s with heap:=h',toks:=k }):wpAny (model prog w) A (call (.type "set") [.ref t]) Q E s:=by
 have hlen:its.length=ns.length:=by rw[<- hv.length,A00]
 obtain⟨c,tl,m1⟩:=F.called_set.mro
 have m2:=F.called_set.made
 have m3:=F.called_set.sub
 have m4:=F.called_set.notType
 have m5:=F.called_set.canCreate
 have m6:=F.typeCall_set_1 (.ref t)
 refine A3G (codeAny_of_tree (show wpAny _ _ (callAny (.type "set") _) _ _ _ from ?_))
 refine A06 ⟨A4U _ (by decide +kernel),A3K F.entry_type_call ?_⟩
 rw[Around.under_plain (weight_type_call_type "set" [Value.ref t] []) rfl]
 repeat (any_goals (first | assumption | wp_step))
 refine A2W (code_set_new_1 (Value.ref t) (E:=E) (Q₁:=λx s₁=>∃ led:Bool,x = .ref s.heap.objs.size/\s₁={ s with heap:=s.heap.push (Lg led) }) λled=>⟨led,rfl,rfl⟩) λr s₁ hr=>?_
 cases r with
 | error e=>exact hr
 | ok fl=>
   cases fl with
   | ret x=>
     obtain⟨led,rfl,rfl⟩:=hr
     have hN:(s.heap.push (Lg led)).get? s.heap.objs.size=some (Lg led):=A0E _ rfl
     have hT:Shared.TypeIs { s with heap:=s.heap.push (Lg led) } (.ref s.heap.objs.size) "set":=⟨_,hN,rfl⟩
     have n1:=F.called_set.init.lookup
     have n2:=F.called_set.init.bind (.ref s.heap.objs.size)
     repeat (any_goals (first | assumption | wp_step))
     refine A2W (A4F (R:=wants (λr s₂=>r = .none/\∃ h' k,s₂={ s with heap:=h',toks:=k }/\aB9 prog w s ns h') E) F.called_set.init.plain F.entry_set_init (check_set_init_1 hT ?_)) λr₂ s₂ hr₂=>?_
     . obtain⟨⟨oc,od,odt,osl⟩,g1,g2,nl,g3⟩:=id ht
       simp only at g2 g3
       subst g2 g3
       have g4:(s.heap.push (Lg led)).get? t=some { cls:=.type "tuple",dict:=od,data:=.seq its.toArray nl,slots:=osl }:=A02 _ g1
       have q1:=Ux
       have q2:=Ta
       have q3:(Value.type "tuple" == Value.type "dict")=false:=by decide
       have ht1:(s.heap.push (Lg led)).IsTuple t its.toArray:=⟨_,g4,rfl,nl,rfl⟩
       unfold Builtin.«set.__init__» noKeywords Builtin.Frozenset.updateFrom
       generalize hPI:pyIter=PI
       wp_walk
       subst hPI
       refine A31 ht1 (A01 (wpAny_runValue ?_))
       have htl:t<s.heap.objs.size:=A09 g1
       have hz:(s.heap.push (Lg led)).objs.size=s.heap.objs.size+1:=A1S ..
       refine a89 ((Walks.tuple (by simp[hh]) _ t (by rw[hz];exact Nat.ne_of_lt (Nat.lt_succ_of_lt htl)) its.toArray).toS) s.heap.objs.size (by rw[hz];simp only[List.mem_cons,List.not_mem_nil,or_false,not_or];exact⟨Nat.ne_of_lt (Nat.lt_succ_self _),Nat.ne_of_gt htl⟩) ns (λi v hv'=>?_) (by rw[List.size_toArray];omega) (by rw[List.size_toArray];omega) _ 0 _ rfl (Nat.zero_le _) ⟨⟨_,Heap.get?_push_size _ rfl,rfl,rfl⟩,ht1.push _⟩ ?_ ?_
       . have hv2:its[i]? = some v:=by rw[<- A4D];exact hv'
         have hi:i<ns.length:=by
          have:=(A03.mp hv2).1
          omega
         obtain⟨u,hu,ru⟩:=hv.get (i:=i) (x:=.str ns[i]) (by rw[A0A,A08 hi];rfl)
         rw[hv2] at hu
         cases hu
         obtain⟨k,rfl⟩:=ru
         exact⟨_,k,A08 hi,rfl⟩
       . have e:inS (ns.take 0)=λ_=>false:=funext λk=>by cases k<;>simp[inS]
         rw[e]
         exact⟨Lg led,#[],0,.fresh 0 0 led,Heap.get?_push_of_some _ hN,⟨rfl,rfl,rfl⟩,rfl,(λe he=>by simp at he),(λk=>by simp),by simp[scanBound],rfl,rfl⟩
       intro s' hm hS'
       obtain⟨h',g',d',k',os'⟩:=s'
       have eg:g'=s.gens:=hm.gens
       have ed:d'=s.drawn:=hm.drawn
       have eo:os'=s.os:=hm.os
       subst eg ed eo
       refine A06 ?_
       show wpAny _ _ (ret Value.none) _ _ _
       refine A06 ⟨rfl,h',k',rfl,hS',λb o hb e=>hm.heap b o ?_ (A02 _ (A02 _ e))⟩
       rw[hz]
       simp only[List.mem_cons,List.not_mem_nil,or_false,not_or]
       exact⟨A0J hb,A0J (A2Q hb)⟩
     cases r₂ with
     | error e=>exact hr₂
     | ok fl₂=>
       cases fl₂ with
       | ret r=>
         obtain⟨rfl,h',k,rfl,hS⟩:=hr₂
         repeat (any_goals (first | assumption | wp_step))
         exact h _ _ hS
       | _=>exact hr₂.elim
   | _=>exact hr.elim
end
section
variable {X:Cx}{K:PySem.W.Frag}
def Yr (K:PySem.W.Frag):List V->Hp->VK->Prop:=λvs H Q=>∃ a ns,vs=[.ref a]/\SqT K H a (ns.map V.str)/\ns.length<=1000/\Q (.int ((Dk [] ns).length:Nat)) H
theorem Zo {e:Expr}{ta:TA}{p p2 pos pos2:Pos}(hc:X.A.handled=none)(hg:Gl X "len")(hm:X.mg "len" = none)(hg2:Gl X "set")(hm2:X.mg "set" = none)(ha:PA X [e] ta)(hK:X.K=K:=by ac_nf)
  (hs:starEach [e] X.env=[(false,eval e X.env)]:=by ac_nf) (hs2:starEach [.Call (.Name "set" p2) [e] [] pos2] X.env=[(false,eval (.Call (.Name "set" p2) [e] [] pos2) X.env)]:=by ac_nf) :
  PE X (.Call (.Name "len" p) [.Call (.Name "set" p2) [e] [] pos2] [] pos) (tCB (Yr K) ta):=by
 subst hK
 intro pins s σ H Q I h
 refine A1H (Li I hg hm PyProof.Rows.Boot.«len» ?_ ∅ ∅)
 refine PyProof.Rows.callWith_builtin1 ?_ hs2 rfl
 rw[hs2]
 show wpAny _ _ (spliced ((false,eval (.Call (.Name "set" p2) [e] [] pos2) X.env) :: backTo pos [])) _ _ s
 refine A2D ?_
 refine A1H (Li I hg2 hm2 PyProof.Rows.Boot.«set» ?_ ∅ ∅)
 refine A1T (thn (ha pos2 pins s σ H _ I h) λus s1 ⟨vs,H1,I1,r1,q1⟩=>?_) hs rfl
 obtain⟨a,ns,rfl,hq,hz,q⟩:=q1
 obtain⟨u,rfl,ru⟩:=Vals.one r1
 cases ru
 obtain⟨its,rv,ht,hz2⟩:=I1.tuple hq
 refine a04 hc ht rv (by unfold scanBound;omega) λh' k hS=>?_
 obtain⟨hS1,hS2⟩:=hS
 have I2:Inv X pins σ H1 { s1 with heap:=h',toks:=k }:=I1.kept (t':=k) λb o e=>hS2 b o (A09 e) e
 refine A37 ?_
 obtain⟨o,es,ep,t,ho,hex,hd,_,_,hb,hf,hn⟩:=hS1
 refine call_len_set ho hex hd hf (by unfold scanBound at hb;omega) ?_
 exact⟨.int _,H1,I2.tok _,⟨_,by rw[hn]⟩,q⟩
theorem ab2 {a:Addr}{ns:List Str}{H:Hp}{Q:VK}(h:SqT K H a (ns.map V.str))(hz:ns.length<=1000)(k:Q (.int ((Dk [] ns).length:Nat)) H):Yr K [.ref a] H Q:=⟨a,ns,rfl,h,hz,k⟩
end
theorem aA2 {z:Str}(h:Tyq z=true):z.length<=8:=(Sa h).2
theorem Zg {ns:List Str}(h:ns.Nodup):(Dk [] ns).length=ns.length:=Nat.le_antisymm (Sz ns) (Cr h λz hz=>mem_addAll.mpr (.inr hz))
section
variable {K:PySem.W.Frag} {H:Hp} {Q:VK}
end
theorem G0 (ns:List Int):∀ j ≤ ns.length,preSum (λi=>ns.getD i 0) j=(ns.take j).sum
 | 0,_=>by simp[preSum]
 | j+1,h=>by
   rw[preSum,G0 ns j (by omega),A12,Kc (y:=0) (by omega:j<ns.length)]
   simp
theorem Oe:∀ {ns:List Int},(∀ n∈ns,0<=n/\n<=1000000000000)->0<=ns.sum/\ns.sum<=1000000000000*(ns.length:Int)
 | [],_=>by simp
 | n :: ns,h=>by
   have h1:=h n nofun
   have h2:=Oe λm hm=>h m (A0C _ hm)
   rw[A40,A0Z]
   omega
section
variable {X:Cx}{K:PySem.W.Frag}
def aD8 (K:PySem.W.Frag):List V->Hp->VK->Prop:=λxs H Q=>∃(a:Addr) (ns:List Int),xs=[.ref a]/\(SqL K H a (ns.map V.int)\/SqT K H a (ns.map V.int))/\(∀ n∈ns,0<=n/\n<=1000000000000)/\ns.length<=1000000/\Q (.int ns.sum) H
theorem ag0 {ns:List Int}{its:List Value}(r:Vals (ns.map V.int) its){i:Nat}{v:Value}(h:its.toArray[i]? = some v):∃ t,v = .int (ns.getD i 0) t:=by
 rw[A4D] at h
 have hl:=r.length
 rw[A00] at hl
 have hi:i<ns.length:=by
  have:=(A03.mp h).1
  omega
 obtain⟨u,hu,ru⟩:=r.get (i:=i) (x:=.int (ns.getD i 0)) (by rw[A0A,Kc (y:=0) hi];rfl)
 rw[h] at hu
 cases hu
 exact ru
theorem Z6 (hc:X.calm=true):CallR X (.builtin "sum") (aD8 X.K):=by
 intro pins s σ H xs us Q I r h
 obtain⟨a,ns,rfl,hl,hb,hz,q⟩:=h
 obtain⟨u,rfl,ru⟩:=Km r
 cases ru
 have fits:∀ j,j<ns.length->InLong (ns.getD j 0)/\InLong (preSum (λi=>ns.getD i 0) (j+1)):=λj hj=>by
  have h1:=hb _ (A04 (Kc (y:=0) hj))
  have h2:=Oe (ns:=ns.take (j+1)) λn hn=>hb n (A3E hn)
  rw[G0 ns (j+1) hj]
  rw[A16] at h2
  unfold InLong
  omega
 have last:preSum (λi=>ns.getD i 0) ns.length=ns.sum:=by rw[G0 ns _ (A07 _),A17]
 refine call_sum_walk ?_
 rcases hl with hl | hl
 . obtain⟨its,rv,pl,_⟩:=I.list hl
   have hlen:its.toArray.size=ns.length:=by rw[A0N,<- rv.length,A00]
   have hlt:a<s.heap.objs.size:=let ⟨_,e,_⟩:=pl.isList;A09 e
   refine A3W pl.isList ?_
   refine⟨_,_,_,_,_,_,λi=>ns.getD i 0,rfl,Walks.list (by simpa using I.ok.hd hc) _ a (Nat.ne_of_lt hlt) its.toArray,⟨⟨_,Heap.get?_push_size _ rfl,rfl,rfl⟩,pl.isList.push _⟩,λb hb'=>?_,λi v hv=>ag0 rv hv,by rw[hlen];exact fits,λh' tk t' hk=>?_⟩
   . rw[A1S]
     simp only[List.mem_cons,List.not_mem_nil,or_false] at hb'
     rcases hb' with rfl | rfl
     . exact A3A _
     exact A2Q hlt
   refine⟨.int ns.sum,H,I.kept (t':=tk) λb o e=>hk b o (λz=>?_) (A02 _ e),⟨t',by rw[hlen,last]⟩,q⟩
   have:b=s.heap.objs.size:=by simpa using z
   subst this
   exact absurd (A09 e) (A26 _)
 obtain⟨its,rv,pl,_⟩:=I.tuple hl
 have hlen:its.toArray.size=ns.length:=by rw[A0N,<- rv.length,A00]
 have hlt:a<s.heap.objs.size:=let ⟨_,e,_⟩:=pl;A09 e
 refine A31 pl ?_
 refine⟨_,_,_,_,_,_,λi=>ns.getD i 0,rfl,Walks.tuple (by simpa using I.ok.hd hc) _ a (Nat.ne_of_lt hlt) its.toArray,⟨⟨_,Heap.get?_push_size _ rfl,rfl,rfl⟩,Heap.IsTuple.push pl _⟩,λb hb'=>?_,λi v hv=>ag0 rv hv,by rw[hlen];exact fits,λh' tk t' hk=>?_⟩
 . rw[A1S]
   simp only[List.mem_cons,List.not_mem_nil,or_false] at hb'
   rcases hb' with rfl | rfl
   . exact A3A _
   exact A2Q hlt
 refine⟨.int ns.sum,H,I.kept (t':=tk) λb o e=>hk b o (λz=>?_) (A02 _ e),⟨t',by rw[hlen,last]⟩,q⟩
 have:b=s.heap.objs.size:=by simpa using z
 subst this
 exact absurd (A09 e) (A26 _)
theorem Sl (hc:X.calm=true)(hK:X.K=K:=by ac_nf):CallR X (.builtin "sum") (aD8 K):=hK ▸ Z6 hc
theorem aC6 {a:Addr}{ns:List Int}{H:Hp}{Q:VK}(h:SqL K H a (ns.map V.int)\/SqT K H a (ns.map V.int))(hb:∀ n∈ns,0<=n/\n<=1000000000000)(hz:ns.length<=1000000)(k:Q (.int ns.sum) H):aD8 K [.ref a] H Q:=⟨a,ns,rfl,h,hb,hz,k⟩
end
section
variable {prog:Program}{w:World}{A:Around}{E:Value->Shared->Prop}{s:Shared}
end
section
variable {X:Cx}{K:PySem.W.Frag}
end
section
variable {prog:Program}{w:World}{A:Around}{E:Value->Shared->Prop}{s:Shared}
end
section
variable {X:Cx}{K:PySem.W.Frag}
end
section
variable {α:Type}[DecidableEq α]
def Ez:List α->(α->Bool)->Nat
 | [],_=>0
 | x :: xs,p=>(p x).toNat+2*Ez xs p
def Fq:List α->α->Nat
 | [],_=>0
 | y :: ys,x=>if x=y then 1 else 2*Fq ys x
theorem Pp {p q:α->Bool}:∀ {ns:List α},(∀ x∈ns,p x=q x)->Ez ns p=Ez ns q
 | [],_=>rfl
 | x :: xs,h=>by
   unfold Ez
   rw[h x nofun,Pp (ns:=xs) λy hy=>h y (by simp[hy])]
theorem aa5 {a b:Bool} {m n:Nat} (h:a.toNat+2*m=b.toNat+2*n):a=b/\m=n:=by
 cases a<;>cases b<;>simp[Bool.toNat] at h ⊢ <;> omega
theorem Qp {p q:α->Bool}:∀ {ns:List α},Ez ns p=Ez ns q->∀ x∈ns,p x=q x
 | [],_,x,hx=>by cases hx
 | y :: ys,h,x,hx=>by
   unfold Ez at h
   obtain⟨h1,h2⟩:=aa5 h
   rcases A0K.mp hx with rfl | hx
   . exact h1
   exact Qp h2 x hx
theorem ac1 (a b:Bool)(m n:Nat):(a.toNat+2*m) &&& (b.toNat+2*n)=(a&&b).toNat+2*(m &&& n):=by
 apply Nat.eq_of_testBit_eq
 intro i
 rw [Nat.testBit_and]
 cases i with
 | zero=>
   cases a<;>cases b<;>simp[Nat.testBit_zero,Bool.toNat]<;>omega
 | succ i=>
   rw[Nat.testBit_succ,Nat.testBit_succ,Nat.testBit_succ]
   have e:∀(c:Bool) (k:Nat),(c.toNat+2*k) / 2=k:=λc k=>by cases c<;>simp[Bool.toNat]<;>omega
   rw[e,e,e,Nat.testBit_and]
theorem W1 (p q:α->Bool):∀ ns:List α,Ez ns p &&& Ez ns q=Ez ns (λx=>p x&&q x)
 | []=>by simp[Ez]
 | x :: xs=>by
   unfold Ez
   rw[ac1,W1 p q xs]
theorem binM_zero {p:α->Bool}:∀ {ns:List α},Ez ns p=0↔∀ x∈ns,p x=false
 | []=>by simp[Ez]
 | x :: xs=>by
   unfold Ez
   have:=binM_zero (p:=p) (ns:=xs)
   constructor
   . intro h y hy
     have h1:(p x).toNat=0:=by omega
     have h2:Ez xs p=0:=by omega
     rcases A0K.mp hy with rfl | hy
     . cases e:p y with
       | false=>rfl
       | true=>rw[e] at h1;cases h1
     exact this.mp h2 y hy
   intro h
   rw[h x nofun,this.mpr λy hy=>h y (by simp[hy])]
   rfl
theorem Zy (p:α->Bool):∀ ns:List α,Ez ns p<2 ^ ns.length
 | []=>by simp[Ez]
 | x :: xs=>by
   have:=Zy p xs
   unfold Ez
   rw[A0Z,Nat.pow_succ]
   have:(p x).toNat<=1:=by cases p x<;>simp[Bool.toNat]
   omega
theorem a06:∀ {ns:List α},ns.Nodup->∀ {x:α},x∈ns->Fq ns x=Ez ns (λy=>decide (y=x))
 | [],_,x,h=>by cases h
 | y :: ys,hn,x,h=>by
   obtain⟨h1,h2⟩:=A13.mp hn
   unfold Fq Ez
   by_cases e:x=y
   . subst e
     rw[A11 rfl,(binM_zero (p:=λy=>decide (y=x)) (ns:=ys)).mpr λz hz=>A0Q λq=>h1 (by rw[<- q];exact hz)]
     simp[Bool.toNat]
   rw[A0Y e,a06 h2 ((A0K.mp h).resolve_left e)]
   have:decide (y=x)=false:=A0Q λq=>e q.symm
   show _=(decide (y=x)).toNat+_
   rw[this]
   simp[Bool.toNat]
theorem Qt (f:α->Nat):∀ l:List α,(l.map λx=>2*f x).sum=2*(l.map f).sum
 | []=>rfl
 | x :: xs=>by simp[Qt f xs,Nat.mul_add]
theorem M7 (p:α->Bool):∀ {ns:List α},ns.Nodup->((ns.filter p).map (Fq ns)).sum=Ez ns p
 | [],_=>rfl
 | y :: ys,hn=>by
   obtain⟨h1,h2⟩:=A13.mp hn
   have e:(ys.filter p).map (Fq (y :: ys))=(ys.filter p).map λx=>2*Fq ys x:=by
    apply A2V
    intro x hx
    have:x≠y:=λq=>h1 (q ▸ (A21.mp hx).1)
    show(if x=y then 1 else 2*Fq ys x)=_
    rw [A0Y this]
   unfold Ez
   rw[A43]
   cases hp:p y with
   | true=>
     rw[A11 rfl,A0X,A40,e,Qt,M7 p h2]
     show(if y=y then 1 else _)+_=_
     rw[A11 rfl]
     rfl
   | false=>
     rw[A0Y ∅,e,Qt,M7 p h2]
     simp[Bool.toNat]
theorem Zl {p:α->Bool}:∀ {ns:List α},ns.Nodup->∀ {x:α},x∈ns->p x=true->Ez ns p=Ez ns (λy=>p y && !decide (y=x))+Fq ns x
 | [],_,x,h,_=>by cases h
 | y :: ys,hn,x,h,hp=>by
   obtain⟨h1,h2⟩:=A13.mp hn
   unfold Fq Ez
   by_cases e:x=y
   . subst e
     rw[A11 rfl,hp,Pp (ns:=ys) (p:=λy=>p y && !decide (y=x)) (q:=p) λz hz=>?_]
     . simp[Bool.toNat];omega
     have:decide (z=x)=false:=A0Q λq=>h1 (q ▸ hz)
     simp[this]
   rw[A0Y e,Zl h2 ((A0K.mp h).resolve_left e) hp]
   have:decide (y=x)=false:=A0Q λq=>e q.symm
   show _=((p y && !decide (y=x)).toNat+_)+_
   rw[this]
   simp
   omega
def frF (b:α->α->Bool)(L:List α):List α:=L.filter λx=>!(L.any λy=>b y x)
def Gp (L:List α)(x:α):List α:=L.filter λy=>!decide (y=x)
def ext (b:α->α->Bool):Nat->List α->List (List α)
 | 0,_=>[[]]
 | n+1,L=>(frF b L).flatMap λx=>(ext b n (Gp L x)).map (x :: ·)
def cnt (b:α->α->Bool)(L:List α):Nat:=(ext b L.length L).length
theorem al5 (b:α->α->Bool):cnt b []=1:=rfl
theorem mem_frF {b:α->α->Bool}{L:List α}{x:α}:x∈frF b L↔x∈L/\∀ y∈L,b y x=false:=by
 unfold frF
 rw[A21]
 constructor
 . rintro ⟨h1,h2⟩
   refine⟨h1,λy hy=>?_⟩
   cases e:b y x with
   | false=>rfl
   | true=>
     have:(L.any λy=>b y x)=true:=A1P.mpr ⟨y,hy,e⟩
     rw[this] at h2
     cases h2
 rintro⟨h1,h2⟩
 refine⟨h1,?_⟩
 have:(L.any λy=>b y x)=false:=by
  rw[Bool.eq_false_iff]
  intro h
  obtain⟨y,hy,e⟩:=A1P.mp h
  rw[h2 y hy] at e
  cases e
 rw[this]
 rfl
theorem Mv {L:List α}(h:L.Nodup)(x:α):(Gp L x).Nodup:=List.Nodup.sublist (A4M) h
theorem aa6:∀ {L:List α} {x:α},x∉L->Gp L x=L:=fun {L x} h=>by
 unfold Gp
 rw[List.filter_eq_self]
 intro y hy
 have:y≠x:=λq=>h (q ▸ hy)
 simp[this]
theorem Ix:∀ {L:List α} {x:α},L.Nodup->x∈L->(Gp L x).length+1=L.length
 | [],_,_,h=>by cases h
 | y :: ys,x,hn,h=>by
   obtain⟨h1,h2⟩:=A13.mp hn
   by_cases e:y=x
   . subst e
     have:Gp (y :: ys) y=Gp ys y:=by unfold Gp;rw[List.filter_cons,if_neg nofun]
     rw[this,aa6 h1]
     rfl
   have:Gp (y :: ys) x=y :: Gp ys x:=by unfold Gp;rw[List.filter_cons,if_pos (by simp[e])]
   rw[this,A0Z,Ix h2 ((A0K.mp h).resolve_left λq=>e q.symm)]
   rfl
theorem af7 {b:α->α->Bool} {L:List α} (hn:L.Nodup) (hne:L≠[]):cnt b L=((frF b L).map λx=>cnt b (Gp L x)).sum:=by
 unfold cnt
 cases hl:L.length with
 | zero=>exact absurd (A1I.mp hl) hne
 | succ n=>
   show((frF b L).flatMap λx=>(ext b n (Gp L x)).map (x :: ·)).length=_
   rw[List.length_flatMap]
   congr 1
   apply A2V
   intro x hx
   have:=Ix hn (mem_frF.mp hx).1
   have e:(Gp L x).length=n:=by omega
   rw[A00,e]
def fac:Nat->Nat
 | 0=>1
 | n+1=>fac n*(n+1)
theorem ah5 {f g:α->Nat}:∀ {l:List α},(∀ x∈l,f x<=g x)->(l.map f).sum<=(l.map g).sum
 | [],_=>A07 _
 | x :: xs,h=>by
   have h1:=h x nofun
   have h2:=ah5 (l:=xs) (f:=f) (g:=g) λy hy=>h y (by simp[hy])
   simp
   omega
end
def Mtd (P:Program)(w:World)(K:PySem.W.Frag)(mg:Str->Option Value)(base:Heap)(k:Nat)(C:Addr)(m:Str)(ps:List Str)(sp:Sp):Prop:=
 ∃ f fd,FnOk P w K mg base CX0 k f fd ps sp/\aq7 K C m f/\Binds K fd ps []
def Mkd (P:Program)(w:World)(K:PySem.W.Frag)(mg:Str->Option Value)(base:Heap)(k:Nat)(C:Addr)(x:Str)(ps:List Str)(sp:Sp):Prop:=
 ∃ f fd,FnOk P w K mg base CX0 k f fd ps sp/\Mk K C f/\mg x=some (.ref C)/\Binds K fd ps []
theorem FnOk.void {P:Program}{w:World}{K:PySem.W.Frag}{mg:Str->Option Value}{base:Heap}{CX:CXT}{k:Nat}{f:Addr}{fd:FuncData}{ps:List Str}{sp:Sp}(h:∀ vs H Q E,¬ sp vs H Q E):FnOk P w K mg base CX k f fd ps sp:=
 ⟨λvs H Q E q=>absurd q (h vs H Q E),λA outer s H args us vs Q E _ _ _ _ hs=>absurd hs (h vs H Q E)⟩
def rAt (f:Str)(C:Addr):V->Hp->VK->Prop:=λx H Q=>∃ a dx fs v,x = .ref a/\H a=some (.ins C dx fs)/\fs.lookup f=some v/\Q v H
def tAt (f:Str)(C:Addr)(ta:TE):TE:=fun σ H Q=>ta σ H λx H1=>rAt f C x H1 Q
def rSt (f:Str)(C:Addr)(y:V):V->Hp->(Hp->Prop)->Prop:=λx H R=>∃ a dx fs,x = .ref a/\H a=some (.ins C dx fs)/\fs.length<1000/\R (upd H a (.ins C dx (Lj f y fs)))
def sSt (f:Str)(C:Addr)(ta tv:TE):TS:=λD σ H=>tv σ H λy H1=>ta σ H1 λx H2=>rSt f C y x H2 λH3=>D.nx σ H3
def rMe (m:Str)(C:Addr)(sp:Sp)(t:TA)(σ:St):V->Hp->VK->Prop:=λx H Q=>∃ a dx fs,x = .ref a/\H a=some (.ins C dx fs)/\fs.lookup m=none/\t σ H λvs H2=>sp (x :: (vs++[])) H2 Q E0
def tMe (m:Str)(C:Addr)(sp:Sp)(ta:TE)(t:TA):TE:=fun σ H Q=>ta σ H λx H1=>rMe m C sp t σ x H1 Q
def rMk (C:Addr)(sp:Sp):List V->Hp->VK->Prop:=λvs H1 Q=>∀ x dx,H1 x=none->H1 dx=none->dx≠x ->
 sp (.ref x :: (vs++[])) (upd (upd H1 dx (.own x)) x (.ins C dx [])) (λv H2=>v = .non/\Q (.ref x) H2) E0
def tMk (C:Addr)(sp:Sp)(t:TA):TE:=fun σ H Q=>t σ H λvs H1=>rMk C sp vs H1 Q
def aJ1 (ta:TE):TT:=fun σ H Q=>ta σ H λx H1=>∃ i:Int,x = .int i/\Q (i != 0) H1
section
variable {X:Cx}{K:PySem.W.Frag}{k:Nat}{C:Addr}{f x m:Str}{ps:List Str}{sp:Sp}{e o value:Expr}{es:List Expr}{ta tv:TE}{t:TA}{p pos pos' apos:Pos}
theorem Dx (he:PE X e ta)(c:Cls X.K C)(n:NoAttr X.K C f)(hb:attributeBase e f X.env (eval e X.env)=eval e X.env):PE X (.Attribute e f pos) (tAt f C ta):=by
 intro pins s σ H Q I h
 refine a51 hb (thn (he pins s σ H _ I h) ?_)
 rintro u s1 ⟨x,H1,I1,rx,a,dx,fs,v,rfl,ea,l,q⟩
 cases rx
 exact Wq I1 ea c n l λu' s2 I2 ru=>⟨v,H1,I2,ru,q⟩
theorem L5 (ha:PE X o ta)(hv:PE X value tv)(c:Cls X.K C)(n:NoAttr X.K C f)(hs:swapsWith value (some (.Attribute o f pos')) pos.line X.env=pure false):PS X (.Assign [.Attribute o f pos'] value pos) (sSt f C ta tv):=by
 intro pins s σ H D I h
 refine plainObj_wpAny_Assign_Attribute (thn (hv pins s σ H _ I h) ?_) hs
 rintro u s1 ⟨y,H1,I1,ry,q⟩
 refine thn (ha pins s1 σ H1 _ I1 q) ?_
 rintro ov s2 ⟨x,H2,I2,rx,a,dx,fs,rfl,ea,l,q2⟩
 cases rx
 exact Xi I2 ea c n l ry λs3 I3=>⟨σ,_,I3,q2⟩
theorem Uv {pl:Sem Bool}(he:PE X o ta)(c:Cls X.K C)(F:Mtd X.prog X.w X.K X.mg X.base k C m ps sp)(hr:Room k X.A)(ha:PA X (e :: es) t)
  (hst:starEach (e :: es) X.env=(false,eval e X.env) :: starEach es X.env:=by ac_nf) (hpl:(backTo pos (starEach es X.env)).any (·.1)=false:=by ac_nf)
  (ht:eval (.Call (.Attribute o m apos) (e :: es) [] pos) X.env=(do
   let ov <- eval o X.env
   standAt apos.atName
   let (f,first) <- holding [ov] (getMethod ov m pl)
   callWith pos f first (backTo pos (starEach (e :: es) X.env)) (backToKw pos (keywordEach [] X.env))):=by ac_nf) :
  PE X (.Call (.Attribute o m apos) (e :: es) [] pos) (tMe m C sp ta t):=by
 obtain⟨f,fd,h1,h2,h3⟩:=F
 exact Yo (pl:=pl) he c h2 h1 hr h3 .nil a86 ha hst hpl ht
theorem ad4 (F:Mkd X.prog X.w X.K X.mg X.base k C x ps sp)(hr:Room (k+1) X.A)(hg:Gl X x)(ha:PA X (e :: es) t)(hdb:(x==("__debug__":Str))=false:=by decide)
  (he:starEach (e :: es) X.env=(false,eval e X.env) :: starEach es X.env:=by ac_nf) (hpl:(backTo pos (starEach es X.env)).any (·.1)=false:=by ac_nf) :
  PE X (.Call (.Name x p) (e :: es) [] pos) (tMk C sp t):=by
 obtain⟨f,fd,h1,h2,h3,h4⟩:=F
 exact ak2 h2 h1 hr hg h3 h4 .nil a86 ha hdb he hpl
theorem ae7 (ha:PE X e ta)(he:∀ whole,isTrue e X.env whole=(do let v <- whole;standAt e.pos;holding [v] (truthy v)):=by intro _;ac_nf):PT X e (aJ1 ta):=by
 intro pins s σ H Q I h
 refine isTrue_plain (thn (ha pins s σ H _ I h) ?_) (he _)
 rintro v s1 ⟨x,H1,I1,r1,i,rfl,q1⟩
 exact at1 pins s1 σ H1 _ v Q I1 r1 ⟨_,rfl,q1⟩
end
section
variable {K:PySem.W.Frag}{C:Addr}{f m:Str}{sp:Sp}{ta tv:TE}{t:TA}{σ:St}{H:Hp}{Q:VK}{D:Ends}
theorem i_tAt (k:ta σ H λx H1=>rAt f C x H1 Q):tAt f C ta σ H Q:=k
theorem Kb {a dx:Addr}{fs:List (Str×V)}{v:V}(h:H a=some (.ins C dx fs))(l:fs.lookup f=some v)(k:Q v H):rAt f C (.ref a) H Q:=⟨a,dx,fs,v,rfl,h,l,k⟩
theorem i_sSt (k:tv σ H λy H1=>ta σ H1 λx H2=>rSt f C y x H2 λH3=>D.nx σ H3):sSt f C ta tv D σ H:=k
theorem Wx {a dx:Addr}{fs:List (Str×V)}{y:V}{R:Hp->Prop}(h:H a=some (.ins C dx fs))(hl:fs.length<1000)(k:∀ H',ExtBut a H H'->H' a=some (.ins C dx (Lj f y fs))->R H'):rSt f C y (.ref a) H R:=
 ⟨a,dx,fs,rfl,h,hl,k _ ExtBut.upd Ad⟩
theorem i_tMe (k:ta σ H λx H1=>rMe m C sp t σ x H1 Q):tMe m C sp ta t σ H Q:=k
theorem an6 {a dx:Addr}{fs:List (Str×V)}(h:H a=some (.ins C dx fs))(l:fs.lookup m=none)(k:t σ H λvs H2=>sp (.ref a :: (vs++[])) H2 Q E0):rMe m C sp t σ (.ref a) H Q:=⟨a,dx,fs,rfl,h,l,k⟩
theorem i_tMk (k:t σ H λvs H1=>rMk C sp vs H1 Q):tMk C sp t σ H Q:=k
theorem aD1 {vs:List V}(k:∀ x dx H2,H x=none->Same H H2->H2 x=some (.ins C dx [])->sp (.ref x :: (vs++[])) H2 (λv H3=>v = .non/\Q (.ref x) H3) E0):rMk C sp vs H Q:=λx dx hx hd hne=>
 k x dx _ hx (λb o e=>by rw[Au (ne_of_none e hx),Au (ne_of_none e hd)];exact e) Ad
theorem i_tTru {R:Bool->Hp->Prop}(k:ta σ H λx H1=>∃ i:Int,x = .int i/\R (i != 0) H1):aJ1 ta σ H R:=k
theorem Uq {a:Addr}{kvs:List (Key×V)}{z:Int}{v:V}{R:Hp->Prop}(h:H a=some (.dK kvs))(hl:kvs.length<=1000000)(k:∀ H',ExtBut a H H'->H' a=some (.dK (Hl kvs (Sum.inl z) v))->R H'):∃ b H4,V.ref a = .ref b/\DPut H b (.int z) v H4/\R H4:=
 ⟨a,_,rfl,DPut.k (k:=Sum.inl z) h (by rw[A14];omega),k _ ExtBut.upd Ad⟩
theorem T1 {a:Addr}{kvs:List (Key×V)}{z:Int}{v:V}(h:H a=some (.dK kvs))(e:Dj kvs (Sum.inl z:Key)=some v)(k:Q v H):Xp K (.ref a) (.int z) H Q:=.inr ⟨a,v,rfl,by rw[<- e];exact DGet.k (k:=Sum.inl z) h,k⟩
theorem Qs {a:Addr}{kvs:List (Key×V)}{z:Int}(h:H a=some (.dK kvs))(k:Q (.bl (Dj kvs (Sum.inl z:Key)).isNone) H):a52 K true (.int z) (.ref a) H Q:=by
 refine .inr (.inr (.inl ⟨a,Dj kvs (Sum.inl z:Key),rfl,DGet.k (k:=Sum.inl z) h,?_⟩))
 cases e:Dj kvs (Sum.inl z:Key) with
 | none=>rw[e] at k;exact k
 | some v=>rw[e] at k;exact k
end
def aq3 (d v:Addr):HO:=.ext λh=>h.IsValuesView v d
def ay3:V->List V->Hp->VK->Prop:=λx vs H Q=>∃ d kvs,x = .ref d/\vs=[]/\H d=some (.dK kvs)/\∀ v,H v=none->Q (.ref v) (upd H v (aq3 d v))
def ar3:List V->Hp->VK->Prop:=λxs H Q=>∃(v d:Addr) (kvs:List (Key×V)) (ns:List Int),xs=[.ref v]/\H v=some (aq3 d v)/\H d=some (.dK kvs)/\kvs.map (·.2)=ns.map V.int/\(∀ n∈ns,0<=n/\n<=1000000000000)/\ns.length<=1000000/\Q (.int ns.sum) H
section
variable {X:Cx}{K:PySem.W.Frag}
theorem a57:MtM X "dict.values" ay3:=by
 intro pins s σ H x vs v us Q I rx rv h
 obtain⟨d,kvs,rfl,rfl,hD,q⟩:=h
 cases rx
 cases rv
 obtain⟨z1,hd1,vs1,rel1,dd1⟩:=Rl I.hok hD
 refine A2X F.slot_dict_values dd1.typeIs F.entry_dict_values (F.args_dict_values_1 _) (meets_dict_values (Ar X.prog X.w) d hd1) ⟨⟨vs1,dd1⟩,?_⟩
 refine ⟨.ref s.heap.objs.size,upd H s.heap.objs.size (aq3 d s.heap.objs.size),I.laid (t':=s.toks) (λb u e=>A02 _ e) (A07 _) ⟨⟨_,A0E _ rfl,rfl,rfl⟩,⟨_,A0E _ rfl⟩,λh1 h2 ⟨o,e,r⟩ hk=>⟨o,hk o e,r⟩⟩,rfl,q _ (I.hok.fresh (A07 _))⟩
theorem Yg {α β:Type}{F:α->β->Prop}{l₁:List α}{l₂:List β}(h:Paired F l₁ l₂):∀ {i:Nat} {a:α},l₁[i]? = some a->∃ b,l₂[i]? = some b/\F a b:=by
 induction h with
 | nil=>intro i a e;cases e
 | cons r _ ih=>
   intro i a e
   cases i with
   | zero=>cases e;exact⟨_,rfl,r⟩
   | succ i=>exact ih e
theorem ak9 {ns:List Int}{kvs:List (Key×V)}{vs:List (Key×Value)}(rel:KV kvs vs)(h:kvs.map (·.2)=ns.map V.int){i:Nat}{k:Key}{u:Value}(hx:vs[i]? = some (k,u)):∃ t,u = .int (ns.getD i 0) t:=by
 have hl:kvs.length=vs.length:=rel.length
 have hn:kvs.length=ns.length:=by have:=congrArg List.length h;rwa[A00,A00] at this
 have hi:i<vs.length:=(A03.mp hx).1
 have hk:kvs[i]? = some kvs[i]:=A08 (by omega)
 obtain⟨q,hq,r⟩:=Yg rel hk
 rw[hx] at hq
 cases hq
 have e:(kvs.map (·.2))[i]? = some kvs[i].2:=by rw[A0A,hk];rfl
 rw[h,A0A,Kc (y:=0) (by omega:i<ns.length)] at e
 have e2:V.int (ns.getD i 0)=kvs[i].2:=A0R e
 have r2:=r.2
 rw[<- e2] at r2
 exact r2
theorem Y8 (hc:X.calm=true):CallR X (.builtin "sum") ar3:=by
 intro pins s σ H xs us Q I r h
 obtain⟨v,d,kvs,ns,rfl,hv,hd,hns,hb,hz,q⟩:=h
 obtain⟨u,rfl,ru⟩:=Km r
 cases ru
 have fits:∀ j,j<ns.length->InLong (ns.getD j 0)/\InLong (preSum (λi=>ns.getD i 0) (j+1)):=λj hj=>by
  have h1:=hb _ (A04 (Kc (y:=0) hj))
  have h2:=Oe (ns:=ns.take (j+1)) λn hn=>hb n (A3E hn)
  rw[G0 ns (j+1) hj]
  rw[A16] at h2
  unfold InLong
  omega
 have last:preSum (λi=>ns.getD i 0) ns.length=ns.sum:=by rw[G0 ns _ (A07 _),A17]
 obtain⟨_,hs,vs,rel,dd⟩:=Rl I.hok hd
 obtain⟨ep,hat⟩:=dd.dictAt
 have vv:s.heap.IsValuesView v d:=(show ObjOk X.prog X.w H s.heap v (aq3 d v) from I.hok v _ hv).1
 have hlt:d<s.heap.objs.size:=I.hok.lt hd
 have hn:vs.length=ns.length:=by
  have:=congrArg List.length hns
  rw[A00,A00] at this
  have:=rel.length
  omega
 refine call_sum_walk ?_
 obtain⟨oI,St,hit,W,st⟩:=(PySem.W.kdl_values (knd:=Ar X.prog X.w) (r:=v) (d:=d) (kvs:=vs) (ep:=ep)).iter X.A.in1 s (by simpa using I.ok.hd hc) ⟨vv,hat⟩
 refine hit _ _ ?_
 refine⟨s.heap.objs.size,_,_,_,_,_,λi=>ns.getD i 0,rfl,W,st,?_,?_,by rw[hn];exact fits,?_⟩
 . intro b hb'
   rw[A1S]
   simp only[List.mem_cons,List.not_mem_nil,or_false] at hb'
   rcases hb' with rfl | rfl
   . exact A3A _
   exact A2Q hlt
 . rintro i u ⟨k,hx⟩
   exact ak9 rel hns hx
 intro h' tk t' hk
 refine⟨.int ns.sum,H,I.kept (t':=tk) ?_,⟨t',by rw[hn,last]⟩,q⟩
 intro b o e
 refine hk b o (λz=>?_) (A02 _ e)
 have:b=s.heap.objs.size:=by simpa using z
 subst this
 exact absurd (A09 e) (A26 _)
theorem aC3 {d:Addr}{kvs:List (Key×V)}{H:Hp}{Q:VK}(h:H d=some (.dK kvs))(k:∀ v H',H v=none->Same H H'->H' v=some (aq3 d v)->Q (.ref v) H'):ay3 (.ref d) [] H Q:=⟨d,kvs,rfl,rfl,h,λv hv=>k v _ hv (Same.upd hv) Ad⟩
theorem aA6 {v d:Addr}{kvs:List (Key×V)}{ns:List Int}{H:Hp}{Q:VK}(hv:H v=some (aq3 d v))(hd:H d=some (.dK kvs))(hns:kvs.map (·.2)=ns.map V.int)(hb:∀ n∈ns,0<=n/\n<=1000000000000)(hz:ns.length<=1000000)(k:Q (.int ns.sum) H):ar3 [.ref v] H Q:=
 ⟨v,d,kvs,ns,rfl,hv,hd,hns,hb,hz,k⟩
end
section
variable {X:Cx}
end
section
variable {α:Type}[DecidableEq α]
theorem an1 (a b:Nat):Builtin.bitAnd (a:Int) (b:Int)=((a &&& b:Nat):Int):=by
 rw[bitAnd_pp (Int.natCast_nonneg _) (Int.natCast_nonneg _)]
 simp
theorem Za (p q:α->Bool)(ns:List α):(Builtin.bitAnd (Ez ns p:Int) (Ez ns q:Int) != 0)=ns.any λx=>p x&&q x:=by
 rw[an1,W1]
 cases e:ns.any λx=>p x&&q x with
 | true=>
   obtain⟨x,hx,h⟩:=A1P.mp e
   have:Ez ns (λx=>p x&&q x)≠0:=λz=>by
    have:=binM_zero.mp z x hx
    rw[this] at h
    cases h
   simp only[bne_iff_ne,ne_eq]
   omega
 | false=>
   have:Ez ns (λx=>p x&&q x)=0:=binM_zero.mpr λx hx=>by
    cases c:(p x&&q x) with
    | false=>rfl
    | true=>rw[A1P.mpr ⟨x,hx,c⟩] at e;cases e
   rw[this]
   rfl
theorem aj9 {ns:List α} (hn:ns.Nodup) {x:α} (hx:x∈ns) (q:α->Bool):(Builtin.bitAnd (Fq ns x:Int) (Ez ns q:Int) != 0)=q x:=by
 rw[a06 hn hx,Za]
 cases c:q x with
 | true=>exact List.any_eq_true.mpr ⟨x,hx,by simp[c]⟩
 | false=>
   rw[Bool.eq_false_iff]
   intro h
   obtain⟨y,_,hy⟩:=A1P.mp h
   rw[A19,decide_eq_true_iff] at hy
   rw[hy.1,c] at hy
   cases hy.2
theorem Xh (ns:List α)(p q:α->Bool):(ns.any λx=>p x&&q x)=(ns.filter q).any p:=by
 induction ns with
 | nil=>rfl
 | cons y ys ih=>
   rw[A2O,ih,A43]
   cases c:q y with
   | true=>rw[A11 rfl,A2O,Bool.and_true]
   | false=>rw[A0Y ∅,Bool.and_false,A4S]
theorem Zv (b:α->α->Bool)(ns:List α)(q:α->Bool):(ns.filter λx=>q x && !(ns.any λy=>b y x&&q y))=frF b (ns.filter q):=by
 unfold frF
 rw[List.filter_filter]
 apply A2R
 intro x _
 rw[Xh,Bool.and_comm]
theorem Mp (ns:List α)(q:α->Bool)(x:α):(ns.filter λy=>q y && !decide (y=x))=Gp (ns.filter q) x:=by
 unfold Gp
 rw[List.filter_filter]
 apply A2R
 intro y _
 rw[Bool.and_comm]
theorem at9 {m n:Nat}(h:m<=n):fac m<=fac n:=by
 induction h with
 | refl=>exact A07 _
 | @step k _ ih=>exact A0L ih (Nat.le_mul_of_pos_right _ (Nat.succ_pos k))
theorem Te (c:Nat):∀ l:List α,(l.map λ_=>c).sum=l.length*c
 | []=>by simp
 | x :: xs=>by rw[A0X,A40,Te c xs,A0Z,Nat.add_mul,Nat.one_mul,Nat.add_comm]
theorem ah4 (b:α->α->Bool):∀(n:Nat) (L:List α),L.length=n->L.Nodup->cnt b L<=fac n
 | 0,L,hl,_=>by
   have:=A1I.mp hl
   subst this
   exact A07 _
 | n+1,L,hl,hn=>by
   have hne:L≠[]:=by intro e;rw[e] at hl;cases hl
   rw[af7 hn hne]
   have h1:((frF b L).map λx=>cnt b (Gp L x)).sum<=((frF b L).map λ_=>fac n).sum:=ah5 λx hx=>by
    have:=Ix hn (mem_frF.mp hx).1
    exact ah4 b n (Gp L x) (by omega) (Mv hn x)
   rw[Te] at h1
   refine A0L h1 ?_
   show _<=fac n*(n+1)
   rw[Nat.mul_comm]
   refine Nat.mul_le_mul_left _ ?_
   rw[<- hl]
   exact A1Y _ _
theorem ap8 {b:α->α->Bool}{L:List α}(hn:L.Nodup)(h:L.length<=10):cnt b L<=3628800:=A0L (ah4 b _ L rfl hn) (A0L (at9 h) ∅)
end
def aq2 (ns:List Str):List (Key×V):=ns.map λx=>((Sum.inr x:Key),V.int ((Fq ns x:Nat):Int))
def ahK (ns:List Str)(ps:List (Str×Str)):List (Key×V):=ns.map λx=>((Sum.inr x:Key),V.int ((Ez ns (λy=>Ka ps y x):Nat):Int))
theorem Nl {f:Str->V}:∀ {ns:List Str} {x:Str},x∈ns->Dj (ns.map λx=>((Sum.inr x:Key),f x)) (Sum.inr x:Key)=some (f x)
 | [],x,h=>by cases h
 | y :: ys,x,h=>by
   rw[A0X]
   by_cases e:y=x
   . subst e
     exact Bj rfl
   rw[B9 λq=>e (Sum.inr.inj q)]
   exact Nl ((A0K.mp h).resolve_left λq=>e q.symm)
theorem J5 {f:Str->V}:∀ {ns:List Str} {x:Str},x∉ns->Dj (ns.map λx=>((Sum.inr x:Key),f x)) (Sum.inr x:Key)=none
 | [],x,h=>rfl
 | y :: ys,x,h=>by
   rw[List.map_cons,B9 λq=>h (by rw[<- Sum.inr.inj q];simp)]
   exact J5 λq=>h (A0C _ q)
theorem Ni:∀ {ns:List Str} {i:Nat} {x:Str},ns.Nodup->ns[i]? = some x->Fq ns x=2 ^ i
 | [],i,x,_,h=>by cases h
 | y :: ys,0,x,_,h=>by
   cases h
   unfold Fq
   rw[A11 rfl]
 | y :: ys,i+1,x,hn,h=>by
   obtain⟨h1,h2⟩:=A13.mp hn
   have hx:ys[i]? = some x:=h
   unfold Fq
   rw[A0Y λq=>h1 (by rw[<- q];exact A04 hx),Ni h2 hx,Nat.pow_succ,Nat.mul_comm]
theorem IsL.int_eq {K:PySem.W.Frag}{H:Hp}:∀ {ns:List Int} {vs:List V},IsL K H (ns.map PyData.int) vs->vs=ns.map V.int
 | [],vs,h=>by simp only[List.map_nil,IsL] at h;exact h
 | n :: ns,vs,h=>by
   simp only[List.map_cons,IsL,Is] at h
   obtain⟨v,r,rfl,rfl,e3⟩:=h
   rw[IsL.int_eq e3]
   rfl
theorem M5 {α:Type}(f:α->Nat):∀ l:List α,(l.map λx=>((f x:Nat):Int)).sum=(((l.map f).sum:Nat):Int)
 | []=>rfl
 | x :: xs=>by rw[A0X,A40,M5 f xs,A0X,A40];omega
theorem ExtBut.fzI {p:Addr}{H H':Hp}{C dx:Addr}{fs:List (Str×V)}(e:ExtBut p H H')(hp:H p=some (.ins C dx fs)):Fz H H':=a54 e λxs h=>by
 rcases h with h | ⟨o,h⟩
 . rw[hp] at h;cases h
 rw[hp] at h;cases h
def Knw (ns:List Str) (ps:List (Str×Str)) (kvs:List (Key×V)):Prop:=(kvs.map (·.1)).Nodup /\
 (∀ kv∈kvs,∃ q:Str->Bool,kv.1=Sum.inl ((Ez ns q:Nat):Int)/\kv.2=V.int ((cnt (Ka ps) (ns.filter q):Nat):Int))/\Dj kvs (Sum.inl 0:Key)=some (.int 1)
theorem Wi {κ:Type}[DecidableEq κ]:∀ {kvs:List (κ×V)} {k:κ} {v:V},Dj kvs k=some v->(k,v)∈kvs
 | [],k,v,h=>by cases h
 | p :: r,k,v,h=>by
   by_cases e:p.1=k
   . rw[Bj e] at h
     cases h
     rw[<- e]
     exact A0V
   rw[B9 e] at h
   exact A0C _ (Wi h)
theorem Knw.get {ns:List Str}{ps:List (Str×Str)}{kvs:List (Key×V)}(h:Knw ns ps kvs){q:Str->Bool}{v:V}(e:Dj kvs (Sum.inl ((Ez ns q:Nat):Int):Key)=some v):v = .int ((cnt (Ka ps) (ns.filter q):Nat):Int):=by
 obtain⟨q',h1,h2⟩:=h.2.1 _ (Wi e)
 have h3:Ez ns q'=Ez ns q:=by
  have:=Sum.inl.inj h1
  omega
 have h4:ns.filter q'=ns.filter q:=A2R λx hx=>Qp h3 x hx
 rw[h4] at h2
 exact h2
theorem Knw.len {ns:List Str}{ps:List (Str×Str)}{kvs:List (Key×V)}(h:Knw ns ps kvs)(hf:ns.length<=10):kvs.length<=1024:=by
 have:=Cr (ys:=(List.range 1024).map λi=>(Sum.inl ((i:Nat):Int):Key)) h.1 λk hk=>by
  obtain⟨kv,hkv,rfl⟩:=A0I.mp hk
  obtain⟨q,h1,_⟩:=h.2.1 kv hkv
  rw[h1]
  have h2:=Zy q ns
  have h3:(2:Nat) ^ ns.length<=2 ^ 10:=A4G ∅ hf
  exact A0I.mpr ⟨Ez ns q,A38.mpr (by omega),rfl⟩
 rwa [A00,A00,List.length_range] at this
theorem Knw.put {ns:List Str}{ps:List (Str×Str)}{kvs:List (Key×V)}(h:Knw ns ps kvs)(q:Str->Bool) :
  Knw ns ps (Hl kvs (Sum.inl ((Ez ns q:Nat):Int)) (.int ((cnt (Ka ps) (ns.filter q):Nat):Int))):=by
 cases e:Dj kvs (Sum.inl ((Ez ns q:Nat):Int):Key) with
 | some v=>
   have hp:Hl kvs (Sum.inl ((Ez ns q:Nat):Int):Key) (.int ((cnt (Ka ps) (ns.filter q):Nat):Int))=kvs:=by
    unfold Hl
    rw[Gm,e,A11 (show(some v).isSome=true from rfl)]
    conv=>rhs;rw[<- List.map_id kvs]
    apply A2V
    intro kv hkv
    by_cases c:kv.1=Sum.inl ((Ez ns q:Nat):Int)
    . rw[A11 c]
      obtain⟨q',h1,h2⟩:=h.2.1 kv hkv
      rw[h1] at c
      have h3:Ez ns q'=Ez ns q:=by
       have:=Sum.inl.inj c
       omega
      have h4:ns.filter q'=ns.filter q:=A2R λx hx=>Qp h3 x hx
      rw[<- h4,<- h2]
      rfl
    rw[A0Y c]
    rfl
   rw[hp]
   exact h
 | none=>
   refine⟨ao0 _ h.1 e,λkv hkv=>?_,?_⟩
   . rw[Kh _ e] at hkv
     rcases A0B.mp hkv with hkv | hkv
     . exact h.2.1 kv hkv
     have:kv=(Sum.inl ((Ez ns q:Nat):Int),V.int ((cnt (Ka ps) (ns.filter q):Nat):Int)):=by simpa using hkv
     subst this
     exact⟨q,rfl,rfl⟩
   rw[Mc]
   by_cases c:(Sum.inl 0:Key)=Sum.inl ((Ez ns q:Nat):Int)
   . rw[<- c,h.2.2] at e
     cases e
   rw[A0Y c]
   exact h.2.2
theorem Knw.new (ns:List Str)(ps:List (Str×Str)):Knw ns ps [(Sum.inl 0,V.int 1)]:=by
 refine⟨by simp,λkv hkv=>?_,Bj rfl⟩
 have:kv=(Sum.inl 0,V.int 1):=by simpa using hkv
 subst this
 refine⟨λ_=>false,?_,?_⟩
 . rw[binM_zero.mpr λ_ _=>rfl]
   rfl
 have:ns.filter (λ_=>false)=[]:=by simp
 rw[this,al5]
 rfl
structure WaysAt (K:PySem.W.Frag)(C:Addr)(H:Hp)(p dx:Addr)(nv:V)(bd ad kd:Addr)(ns:List Str)(ps:List (Str×Str))(kvs:List (Key×V)):Prop where
 ob:H p=some (.ins C dx [("names",nv),("bits",.ref bd),("ahead",.ref ad),("full",.int ((Ez ns (λ_=>true):Nat):Int)),("known",.ref kd)])
 nm:Is K H (nmD ns) nv
 bt:H bd=some (.dK (aq2 ns))
 ah:H ad=some (.dK (ahK ns ps))
 kn:H kd=some (.dK kvs)
 nb:bd≠kd
 na:ad≠kd
 ok:Knw ns ps kvs
section
variable {K:PySem.W.Frag}{C:Addr}{H H':Hp}{p dx:Addr}{nv:V}{bd ad kd:Addr}{ns:List Str}{ps:List (Str×Str)}{kvs kvs':List (Key×V)}
theorem WaysAt.same (h:WaysAt K C H p dx nv bd ad kd ns ps kvs)(e:Same H H'):WaysAt K C H' p dx nv bd ad kd ns ps kvs:=
 ⟨e _ _ h.ob,h.nm.nm_fz e.fz,e _ _ h.bt,e _ _ h.ah,e _ _ h.kn,h.nb,h.na,h.ok⟩
theorem WaysAt.pk (h:WaysAt K C H p dx nv bd ad kd ns ps kvs):p≠kd:=ne_of h.ob h.kn (by intro z;cases z)
theorem WaysAt.put (h:WaysAt K C H p dx nv bd ad kd ns ps kvs)(e:ExtBut kd H H')(hk:H' kd=some (.dK kvs'))(ok:Knw ns ps kvs'):WaysAt K C H' p dx nv bd ad kd ns ps kvs':=
 ⟨e _ _ h.pk h.ob,h.nm.nm_fz (e.fzD h.kn),e _ _ h.nb h.bt,e _ _ h.na h.ah,hk,h.nb,h.na,ok⟩
theorem WaysAt.list {l:Addr}{xs:List V}(h:WaysAt K C H p dx nv bd ad kd ns ps kvs)(e:ExtBut l H H')(hl:H l=some (.lst xs)):WaysAt K C H' p dx nv bd ad kd ns ps kvs:=
 ⟨e _ _ (ne_of h.ob hl (by intro z;cases z)) h.ob,h.nm.nm_fz (e.fzL hl),e _ _ (ne_of h.bt hl (by intro z;cases z)) h.bt,e _ _ (ne_of h.ah hl (by intro z;cases z)) h.ah,e _ _ (ne_of h.kn hl (by intro z;cases z)) h.kn,h.nb,h.na,h.ok⟩
end
section
variable {α:Type}[DecidableEq α]
end
section
variable {α:Type}[DecidableEq α]
end
section
variable {K:PySem.W.Frag}{σ:St}{H:Hp}{Q:VK}{td ty tx:TE}
def ai2 (ty tx:TE)(σ:St):V->Hp->VK->Prop:=λx H1 Q=>∃ a,x = .ref a/\IsD H1 a/\ty σ H1 λy H2=>tx σ H2 λz H3=>∃ o,DGet H3 a y o/\Q (o.getD z) H3
theorem i_dget2 (k:td σ H λx H1=>ai2 ty tx σ x H1 Q):af3 td ty tx σ H Q:=k
theorem ad9 {a:Addr}{kvs:List (Key×V)}(h:H a=some (.dK kvs))(k:ty σ H λy H2=>tx σ H2 λz H3=>∃ o,DGet H3 a y o/\Q (o.getD z) H3):ai2 ty tx σ (.ref a) H Q:=⟨a,rfl,.inl ⟨kvs,.inl h⟩,k⟩
end
section
variable {K:PySem.W.Frag}{C:Addr}{H H':Hp}{p dx:Addr}{nv:V}{bd ad kd:Addr}{ns:List Str}{ps:List (Str×Str)}{kvs:List (Key×V)}
end
section
variable {K:PySem.W.Frag}{σ:St}{H:Hp}{Q:VK}
end
theorem Ph {prog:Program}{w:World}{κ:Type}[DecidableEq κ](knd:KeyKind prog w κ)(d:Addr) :
  MeetsIn prog w (Builtin.«dict.update» ⟨[.ref d,.ref d],[]⟩) (λ_ R s=>(∃ kvs,s.heap.DictOf knd d kvs)/\R (.ok (.ret .none)) s):=
 .of_wp λA R s hh=>by
  obtain⟨⟨kvs,hd⟩,h⟩:=hh
  unfold Builtin.«dict.update» Builtin.Dict.selfAndRest
  refine A01 (A01 (wpAny_notOrdered_dict hd.typeIs ?_))
  show wpAny _ _ (pure (d,[Value.ref d])) _ _ s
  refine A06 ?_
  show wpAny _ _ (Builtin.Dict.updateFrom "dict.update" d (.ref d) [] .none) _ _ s
  unfold Builtin.Dict.updateFrom Builtin.Dict.merge Builtin.Dict.readDirectly
  refine A01 (A49 hd.typeIs ?_)
  rw[A0Y ∅]
  refine A01 (A01 (A01 (wpAny_isInstance hd.typeIs isSubtype_dict_dict ?_)))
  simp only[Bool.not_true,Bool.false_eq_true,if_false]
  refine A01 (wpAny_specialOf hd.typeIs F.slot_dict_iter.lookup (A06 ?_))
  simp only[beq_self_eq_true,if_true]
  refine A01 (A06 ?_)
  unfold Builtin.Dict.mergeDict
  rw[A11 nofun]
  refine A01 (wpAny_rule (A06 ?_))
  show wpAny _ _ (Builtin.Dict.addKeywords d [] >>= _) _ _ _
  exact A01 (A06 (A06 ⟨.none,rfl,h⟩))
def Wd:V->List V->Hp->VK->Prop:=λx vs H Q=>∃ d kvs,x = .ref d/\vs=[.ref d]/\H d=some (.dK kvs)/\Q .non H
def Ri:V->List V->Hp->VK->Prop:=λx vs H Q=>Ui x vs H Q\/Wd x vs H Q
section
variable {X:Cx}{K:PySem.W.Frag}
theorem Wy:MtM X "dict.update" Wd:=by
 intro pins s σ H x vs v us Q I rx rv h
 obtain⟨d,kvs,rfl,rfl,hD,q⟩:=h
 cases rx
 obtain⟨u,rfl,ru⟩:=rv.one
 cases ru
 obtain⟨z1,hd1,vs1,rel1,dd1⟩:=Rl I.hok hD
 refine A2X F.slot_dict_update dd1.typeIs F.entry_dict_update (F.args_dict_update_2 _ _) (Ph (Ar X.prog X.w) d) ⟨⟨vs1,dd1⟩,?_⟩
 exact⟨.non,H,I.tok s.toks,rfl,q⟩
theorem Xb:MtM X "dict.update" Ri:=by
 intro pins s σ H x vs v us Q I rx rv h
 rcases h with h | h
 . exact Y0 pins s σ H x vs v us Q I rx rv h
 exact Wy pins s σ H x vs v us Q I rx rv h
end
theorem ax6 {d o:Addr}{ks ms:List Str}{H:Hp}{Q:VK}(hd:H d=some (.dK (L1 ks)))(ho:H o=some (.dK (L1 ms)))(hne:d≠o)(hz:ks.length+ms.length<=1000000)(k:∀ H',ExtBut d H H'->H' d=some (.dK (L1 (Dk ks ms)))->Q .non H'):Ri (.ref d) [.ref o] H Q:=.inl (aF4 hd ho hne hz k)
theorem au1 {d:Addr}{kvs:List (Key×V)}{H:Hp}{Q:VK}(hd:H d=some (.dK kvs))(k:Q .non H):Ri (.ref d) [.ref d] H Q:=.inr ⟨d,kvs,rfl,rfl,hd,k⟩
structure R5 (ns:List Str)(ps:List (Str×Str)):Prop where
 nd:ns.Nodup
 mem:∀ p∈ps,p.1∈ns/\p.2∈ns
 few:ns.length<=100
 le:ps.length<=1100
theorem HalfW.c {ns:List Str}{ps:List (Str×Str)}(h:HalfW ns ps):R5 ns ps:=⟨h.nd,h.mem,h.few,A0L h.le ∅⟩
instance {ns:List Str} {ps:List (Str×Str)}:Coe (HalfW ns ps) (R5 ns ps):=⟨HalfW.c⟩
theorem HalfW.more {ns:List Str}{ps:List (Str×Str)}(h:HalfW ns ps){x y:Str}(hx:x∈ns)(hy:y∈ns):R5 ns (ps++[(x,y)]):=by
 refine⟨h.nd,λp hp=>?_,h.few,?_⟩
 . rcases A0B.mp hp with hp | hp
   . exact h.mem p hp
   have:p=(x,y):=by simpa using hp
   rw[this]
   exact⟨hx,hy⟩
 have:=h.le
 rw[A0H,A18]
 omega
section
variable {α:Type}[DecidableEq α]
end
section
variable {prog:Program}{w:World}{A:Around}{E:Value->Shared->Prop}{I:Addr}{fp wr:List Addr}{n:Nat}{P:Nat->Value->Prop}{St:Nat->Heap->Prop}
end
section
variable {α:Type}[DecidableEq α]
end
section
variable {prog:Program}{w:World}{A:Around}{E:Value->Shared->Prop}{s:Shared}
end
section
variable {κ:Type}[DecidableEq κ]
end
theorem ak4 {l:Addr}{xs:List V}{H:Hp}{Q:VK}(h:H l=some (.lst xs))(k:∀ H',ExtBut l H H'->H' l=some (.lst [])->Q .non H'):ae3 (.ref l) [] H Q:=⟨l,xs,rfl,rfl,h,k _ ExtBut.upd Ad⟩
section
variable {α:Type}[DecidableEq α]
end
section
variable {X:Cx}
end
theorem ap2 {ps:List (Str×Str)}{x y a b:Str}(g:Way (ps++[(x,y)]) a b):Way ps a b\/((a=x\/Way ps a x)/\(y=b\/Way ps y b)):=by
 induction g with
 | one e=>
   rcases A0B.mp e with e | e
   . exact .inl (.one e)
   have e:=A15.mp e
   cases e
   exact .inr ⟨.inl rfl,.inl rfl⟩
 | cons e _ ih=>
   rcases A0B.mp e with e' | e'
   . rcases ih with ih | ⟨h1,h2⟩
     . exact .inl (.cons e' ih)
     refine .inr ⟨.inr ?_,h2⟩
     rcases h1 with h1 | h1
     . exact .one (h1 ▸ e')
     exact .cons e' h1
   have e2:=A15.mp e'
   cases e2
   rcases ih with ih | ⟨_,h2⟩
   . exact .inr ⟨.inl rfl,.inr ih⟩
   exact .inr ⟨.inl rfl,h2⟩
theorem HalfW.said {ns:List Str}{ps:List (Str×Str)}(h:HalfW ns ps){x y:Str}(hx:x∈ns)(hy:y∈ns)(hne:x≠y)(hno:¬ Way ps y x)(hl:ps.length+1<=1000):HalfW ns (ps++[(x,y)]):=by
 refine⟨h.nd,(h.more hx hy).mem,λz g=>?_,h.few,by rw[A0H,A18];exact hl⟩
 rcases ap2 g with g | ⟨g1,g2⟩
 . exact h.irr z g
 rcases g1 with rfl | g1
 . rcases g2 with g2 | g2
   . exact hne g2.symm
   exact hno g2
 rcases g2 with rfl | g2
 . exact hno g1
 exact hno (g2.trans g1)
section
variable {X:Cx}{K:PySem.W.Frag}
end
section
variable {K:PySem.W.Frag}{σ:St}{H:Hp}
end
end L2
namespace L2
open PySem PySem.Spec PyProof.Rows
open PySem PySem.W PyProof.Rows
section
variable {n:Nat}{r:Nat->Nat}
end
section
variable {prog:Program}{w:World}{A:Around}{E:Value->Shared->Prop}{z:Shared}
end
section
variable {prog:Program}{w:World}{A:Around}{E:Value->Shared->Prop}{z:Shared}
end
section
variable {X:Cx}{K:PySem.W.Frag}
end
end L2
namespace L2
open PySem PySem.Spec PyProof.Rows
section
variable {κ:Type}[DecidableEq κ]{P:Program}{w:World}{kd:KeyKind P w κ}{A:Around}{E:Value->Shared->Prop}{z:Shared}
end
section
variable {X:Cx}{K:PySem.W.Frag}
end
section
variable {P:Program}{w:World}{A:Around}{E:Value->Shared->Prop}{z:Shared}
end
section
variable {P:Program}{w:World}{A:Around}{E:Value->Shared->Prop}{z:Shared}
end
section
variable {P:Program}{w:World}{A:Around}{E:Value->Shared->Prop}{z:Shared}{c TI TO i1 i2 D:Addr}{fp1 fp2:List Addr}{n:Nat}{P1 P2:Nat->Value->Prop}{S1 S2:Nat->Heap->Prop}
end
section
variable {P:Program}{w:World}{κ:Type}[DecidableEq κ]{kd:KeyKind P w κ}{A:Around}{E:Value->Shared->Prop}{c TI TO i1 i2 D:Addr}{fp1 fp2:List Addr}{n:Nat}{P1 P2:Nat->Value->Prop}{S1 S2:Nat->Heap->Prop}
end
section
variable {P:Program}{w:World}{A:Around}{E:Value->Shared->Prop}{z:Shared}
end
section
variable {X:Cx}{K:PySem.W.Frag}
end
section
variable {K:PySem.W.Frag}{H:Hp}{Q:VK}
end
section
variable {K:PySem.W.Frag}{H:Hp}{Q:VK}
theorem Uz {u:Addr}{ys:List V}(h:SqL K H u ys\/SqT K H u ys)(k:∀ a H',Same H H'->SqT K H' a ys->Q (.ref a) H'):Mu K [.ref u] H Q:=by
 rcases h with h | h
 . exact Fs h λp H' hp e h'=>k p H' e (SqT.of h')
 exact⟨u,ys,rfl,.inr ⟨h,k u H (.refl _) h⟩⟩
end
section
variable {ns ns':List Str}{ps ps' bs:List (Str×Str)}
end
section
variable {ns:List Str}{ps:List (Str×Str)}
end
section
variable {P:Program}{w:World}{A:Around}{E:Value->Shared->Prop}{z:Shared}
end
section
variable {X:Cx}{K:PySem.W.Frag}
end
section
variable {α:Type}[DecidableEq α]{b:α->α->Bool}{L:List α}
end
def as8:List V->Hp->VK->Prop:=λxs H Q=>∃ i:Int,xs=[.int i]/\i.natAbs.log2<1920/\Q (.str (toString i)) H
theorem X9 {X:Cx}:CallR X (.builtin "repr") as8:=by
 intro pins s σ H xs us Q I r h
 obtain⟨i,rfl,hz,q⟩:=h
 obtain⟨u,rfl,t,rfl⟩:=Km r
 exact PySem.P.repr_of_int hz ⟨.str _,H,I.tok _,⟨_,rfl⟩,q⟩
theorem Sx {n:Nat}(h:n<=3628800):(((n:Nat):Int).natAbs).log2<1920:=by
 rw[A4V]
 by_cases h0:n=0
 . subst h0;decide
 exact A0U ((Nat.log2_lt h0).mpr (A4T h (show 3628800<2 ^ 22 by decide))) (show 22<=1920 by decide)
def xB:List Value:=[.type "ValueError",.type "Exception",.type "BaseException",.type "object"]
def Qj (K:PySem.W.Frag)(C:Addr):Bool:=match K.lookup C with
 | some ⟨.type "type",_,.cls cd,sl⟩=>(match cd.mro,sl.toList with
   | .ref D :: bm,[_,_,_,_,some (.builtin n),_]=>D==C&&n == "ValueError.__new__" && !cd.hasDel&&cd.hasDict&&PySem.W.tailIn K xB bm
   | _,_=>false)
 | _=>false
theorem Ks {K:PySem.W.Frag}{C:Addr}(q:Qj K C=true):∃(nm qn:Str) (N:Addr) (bs bm:List Value) (sn:List Str) (sub:List Value) (ab:Bool) (col:Option Bool) (dd:Option Addr) (k0 k1 k2 k3 k5:Option Value),
  K.lookup C=some (excClassObj nm qn C N bs bm true sn sub ab col dd k0 k1 k2 k3 k5 "ValueError.__new__")/\PySem.W.tailIn K xB bm=true:=by
 unfold Qj at q
 split at q
 . rename_i dd cd sl ho
   split at q
   . rename_i D bm k0 k1 k2 k3 n k5 hm hs
     simp only[Bool.and_eq_true,beq_iff_eq,Bool.not_eq_true'] at q
     obtain⟨⟨⟨⟨e1,e2⟩,hdel⟩,hdc⟩,ht⟩:=q
     subst e1 e2
     obtain⟨nm,bs,mro,ns,qn,hd,sn,sub,ab,col,del⟩:=cd
     dsimp only at hm hdel hdc
     subst hm hdel hdc
     have e3:sl = #[k0,k1,k2,k3,some (.builtin "ValueError.__new__"),k5]:=by
      obtain⟨l⟩:=sl
      simp only at hs
      rw[hs]
     subst e3
     exact⟨nm,qn,ns,bs,bm,sn,sub,ab,col,dd,k0,k1,k2,k3,k5,ho,ht⟩
   cases q
 cases q
theorem Ze (self:Value){h:Heap}{l:List Value}(T:OwnTail h xB l):refuseLoop self "__setattr__" l=pure ():=by
 induction T with
 | base=>exact PySem.F.store_ValueError.passes self
 | own _ _ _ _ ih=>rw[refuseLoop_ref];exact ih
theorem ai0 {h:Heap}{l:List Value}(T:OwnTail h xB l):l.contains (.type "BaseException")=true:=T.hasType (by decide +kernel)
abbrev aq4 (rest:List Value):Obj:={ cls:=.type "tuple",data:=.seq rest.toArray }
abbrev ah7 (C t:Addr):Obj:={ cls:=.ref C,data:=.fields #[.ref t,.none,.none,.none,.bool false,.none] }
section
variable {prog:Program}{w:World}{A:Around}{E:Value->Shared->Prop}{h:Heap}{g:Array GenState}{d:Drawn}{t:Nat}{os:OsState}{K:PySem.W.Frag}{C fI:Addr}{rest:List Value}
theorem ac8 {Q:Fin->Shared->Prop}(X:K.In h)(q:Qj K C=true)(hi:PySem.W.findIn K (.ref C) "__init__" = some (some (.ref fI)))(ht:PySem.W.typeIn K (.ref fI)=some (.type "function"))(hr:rest.length<=sizeLine)
  (hq:wpAny (model prog w) A (call (.ref fI) (.ref (h.objs.size+1) :: rest)) (λr s'=>r = .none/\Q (.done (.ret (.ref (h.objs.size+1)))) s') E ⟨(h.push (aq4 rest)).push (ah7 C h.objs.size),g,d,t,os⟩) :
  wpAny (model prog w) A (Builtin.«type.__call__» ⟨.ref C :: rest,[]⟩) Q E ⟨h,g,d,t,os⟩:=by
 obtain⟨nm,qn,N,bs,bm,sn,sub,ab,col,dd,k0,k1,k2,k3,k5,hl,htl⟩:=Ks q
 have F:=PySem.F.excBase_ValueError
 have T:OwnTail h xB bm:=A2G X htl
 have hC:=X _ _ hl
 repeat (first | (with_reducible refine A24 hC ?_) | (with_reducible refine wpAny_madeBy_exc hC ?_) | wp_step)
 refine codeAny_call_builtin_code (A4U _ F.quiet) (wpAny_check_new_subT F T hC (codeAny_exc_new_subT F T hC ?_ hr))
 show wpAny _ _ _ _ _ _
 have X1:K.In ((h.push (aq4 rest)).push (ah7 C h.objs.size)):=X.keeps λb o e=>A02 _ (A02 _ e)
 have hC1:=X1 _ _ hl
 have hg1:((h.push (aq4 rest)).push (ah7 C h.objs.size)).get? (h.objs.size+1)=some (ah7 C h.objs.size):=by heap_get
 have hcC:(Value.ref C :: bm).contains (.ref C)=true:=by simp
 unfold isInstance
 repeat (first | (with_reducible refine A24 hg1 ?_) | (with_reducible refine A4N hC1 ?_;rw[hcC]) | wp_step)
 show wpAny _ _ (typeLookup (.ref C) _) _ _ _
 refine(A2T (M:=model prog w) X1 hi).at ?_
 refine A1F (A01 ((PySem.W.bind_fn X1 _ ht).at ?_))
 refine A01 (A1O hq (λr s' hr'=>?_) λ_ _ x=>x)
 obtain⟨rfl,hQ⟩:=hr'
 wp_walk
 exact hQ
theorem ak6 {Q:Value->Shared->Prop}(X:K.In h)(q:Qj K C=true)(hi:PySem.W.findIn K (.ref C) "__init__" = some (some (.ref fI)))(ht:PySem.W.typeIn K (.ref fI)=some (.type "function"))(hr:rest.length<=sizeLine)
  (hq:wpAny (model prog w) (A.under (.builtin "type.__call__" ⟨.ref C :: rest,[]⟩)) (call (.ref fI) (.ref (h.objs.size+1) :: rest)) (λr s'=>r = .none/\Q (.ref (h.objs.size+1)) s') E ⟨(h.push (aq4 rest)).push (ah7 C h.objs.size),g,d,t,os⟩) :
  wpAny (model prog w) A (call (.ref C) rest) Q E ⟨h,g,d,t,os⟩:=by
 obtain⟨nm,qn,N,bs,bm,sn,sub,ab,col,dd,k0,k1,k2,k3,k5,hl,htl⟩:=Ks q
 have hC:=X _ _ hl
 have f1:=tc_lookup
 have f2:=tc_bind (.ref C)
 have tt:(⟨h,g,d,t,os⟩:Shared).TypeIs (.ref C) "type":=⟨_,hC,rfl⟩
 refine A3G (codeAny_of_tree ?_)
 show wpAny _ _ (callAny (.ref C) _) _ _ _
 repeat (any_goals (first | assumption | (with_reducible refine A24 hC ?_) | wp_step))
 refine⟨rfl,codeAny_call_builtin_at (A4U _ (by decide +kernel)) entry_typeCall (wpAny_check_type_call_sub hC (ac8 X q hi ht hr ?_))⟩
 exact hq
end
end L2
namespace L2
open PySem PySem.Spec PyProof.Rows
open PySem PySem.Spec PyProof.Rows Builtin Builtin.ObjectAttr
structure XC (K:PySem.W.Frag)(C:Addr):Prop where
 ex:Qj K C=true
 sa:PySem.W.findIn K (.ref C) "__setattr__" = some (some (.builtin "object.__setattr__"))
 ga:PySem.W.findIn K (.ref C) "__getattribute__" = some (some (.builtin "BaseException.__getattribute__"))
 gt:PySem.W.findIn K (.ref C) "__getattr__" = some none
 cl:PySem.W.findIn K (.ref C) "__class__" = some (some (.builtin "object.__class__"))
 cg:PySem.W.specialIn K (.builtin "object.__class__") "__get__" = some (some (.builtin "getset_descriptor.__get__"))
 ct:PySem.W.takesIn K (.builtin "object.__class__")=some true
section
variable {prog:Program}{w:World}{A:Around}{E:Value->Shared->Prop}{s:Shared}{K:PySem.W.Frag}{C x:Addr}{name:Str}{v:Value}
theorem XC.cls (c:XC K C):∃ cd,PySem.W.clsIn K C=some cd/\cd.hasDict=true/\∃ bm,cd.mro = .ref C :: bm/\PySem.W.tailIn K xB bm=true:=by
 obtain⟨nm,qn,N,bs,bm,sn,sub,ab,col,dd,k0,k1,k2,k3,k5,hl,htl⟩:=Ks c.ex
 exact⟨_,by unfold PySem.W.clsIn;rw[hl],rfl,bm,rfl,htl⟩
theorem XC.mro (c:XC K C){h:Heap}(X:K.In h){T:String}(hT:xB.contains (.type T)=true):PySem.W.mroIn K C (.type T)=some true:=by
 obtain⟨cd,hc,_,bm,hm,ht⟩:=c.cls
 unfold PySem.W.mroIn
 rw[hc,A44,hm,A0Y nofun]
 rw[A1J,(A2G X ht).hasType hT,A3Q]
theorem ai1 {R:Result->Shared->Prop}{ox:Obj}{od:Option Obj}{tk:Tok}(c:XC K C)(X:K.In s.heap)(I:PySem.W.InstAt s.heap x ox C od)(ht:PySem.W.findIn K (.ref C) name=some none)
  (h:∀ b,wpAny (model prog w) A.in1 (storeInOwnDict (.ref x) (.ref C) (.str name tk) name v b)
   (λfin s'=>match fin with | .done f=>R (.ok f) s' | .again c'=>c'.quiet=true/\codeAny (model prog w) A c' R s') (λe s'=>R (.error e) s') s) :
  codeAny (model prog w) A (.call (.builtin "object.__setattr__") ⟨[.ref x,.str name tk,v],[]⟩) R s:=by
 have SF:=PySem.F.store_object
 obtain⟨cd,hc,hd,bm,hmr,htl⟩:=c.cls
 have T:=A2G X htl
 have sub:PySem.W.Looks (model prog w) s.heap (isInstance (.ref x) (.type "object")) true:=I.type.andThen (A4O X (c.mro X (by decide +kernel)))
 refine A4F SF.slot.plain SF.entry (@PySem.W.check_slot (model prog w) _ _ s "object.__setattr__" "object" "__setattr__" (.ref x) [.str name tk,v] [] _ SF.kind SF.split sub (SF.args (.ref x) (.str name tk) v) ?_)
 have hm:PySem.W.Looks (model prog w) s.heap (mroOf (.ref C)) cd.mro:=(A3I X hc).andThen .now
 have l3:PySem.W.Looks (model prog w) s.heap (storeTaker? none) none:=.now
 rw[PySem.W.osa_eq,refuse_eq]
 refine A01 (A01 (I.type.here (A01 (hm.here ?_))))
 rw[hmr,refuseLoop_ref,Ze _ T]
 refine A06 (A01 (I.type.here (A01 ((A2T X ht).here (A01 (l3.here ?_))))))
 exact h _
theorem al8 {Q:Unit->Shared->Prop}{vs:Array Value}{sl:Array (Option Value)}(c:XC K C)(X:K.In s.heap)(hx:s.heap.get? x=some ⟨.ref C,none,.fields vs,sl⟩)(ht:PySem.W.findIn K (.ref C) name=some none)
  (hq:∀ h',h'.Ns1 s.heap.objs.size (λy=>if y=name then some v else none)->h'.get? x=some ⟨.ref C,some s.heap.objs.size,.fields vs,sl⟩->(∀ b o,b≠x->s.heap.get? b=some o->h'.get? b=some o)->Q () { s with heap:=h',toks:=s.toks+2 }) :
  wpAny (model prog w) A (setAttr (.ref x) name v) Q E s:=by
 have J:PySem.W.InstAt s.heap x ⟨.ref C,none,.fields vs,sl⟩ C none:=⟨hx,rfl,rfl,A1G⟩
 obtain⟨cd,hc,hd,bm,hmr,htl⟩:=c.cls
 refine PySem.W.set_plain X J c.sa (ai1 (s:={ s with toks:=s.toks+1 }) c X J ht λb=>?_)
 refine A01 (A06 (A01 (A01 (A4H hx (A01 (A4Q (s:={ s with toks:=s.toks+1 }) (A3I X hc) ?_))))))
 rw[hd]
 have hx1:(s.heap.push { cls:=.type "dict",data:=.dict #[] }).get? x=some ⟨.ref C,none,.fields vs,sl⟩:=A02 _ hx
 have hxs:x≠s.heap.objs.size:=A0J (A09 hx)
 refine A01 (wpAny_alloc' ?_)
 refine A01 (wpAny_update' hx1 ?_)
 refine A06 ?_
 have hgd:((s.heap.push { cls:=.type "dict",data:=.dict #[] }).update x λo=>{ o with dict:=some s.heap.objs.size }).get? s.heap.objs.size=some { cls:=.type "dict",data:=.dict #[] }:=
  (Heap.get?_update_ne _ _ _ _ hxs.symm).trans (Heap.get?_push_at rfl rfl)
 have hnd:((s.heap.push { cls:=.type "dict",data:=.dict #[] }).update x λo=>{ o with dict:=some s.heap.objs.size }).Ns s.heap.objs.size (λ_=>none):=
  ⟨_,#[],_,hgd,rfl,λe he=>absurd he nofun,λ_=>rfl⟩
 show wpAny _ _ (storeInDict s.heap.objs.size (.str name _) name v) _ _ _
 unfold storeInDict newKeyGuard
 refine A01 (A06 (A01 (wpAny_nsSet1 (Heap.Ns1.of_empty hnd) λh' hn' hs=>?_)))
 obtain⟨oD,esD,epD,hoD,hdD,hcD⟩:=hn'.count (Within.cons name v Within.nil)
 refine A01 (wpAny_lookBehind hoD (by rw[hdD];exact pastItsLine_dict (A0L hcD (by rw[A0Z,List.length_nil,A14];omega))) ?_)
 refine A06 (hq h' hn' ((hs.2 x hxs).trans (A1X _ hx1 rfl)) λb o hb hbo=>?_)
 exact(hs.2 b (A0J (A09 hbo))).trans ((Heap.get?_update_ne _ _ _ _ hb).trans (A02 _ hbo))
theorem al6 {Q:Unit->Shared->Prop}{dx:Addr}{mA:Str->Option Value}{ns:List Str}{vs:Array Value}{sl:Array (Option Value)}(c:XC K C)(X:K.In s.heap)(hx:s.heap.get? x=some ⟨.ref C,some dx,.fields vs,sl⟩)(hn:s.heap.Ns1 dx mA)
  (hw:Within mA ns) (hz:ns.length<=sizeLine) (ht:PySem.W.findIn K (.ref C) name=some none)
  (hq:∀ h',h'.Ns1 dx (λy=>if y=name then some v else mA y)->Heap.SameBut dx s.heap h'->Q () { s with heap:=h',toks:=s.toks+2 }) :
  wpAny (model prog w) A (setAttr (.ref x) name v) Q E s:=by
 obtain⟨od,_,_,hod,_⟩:=id hn
 have J:PySem.W.InstAt s.heap x ⟨.ref C,some dx,.fields vs,sl⟩ C (some od):=⟨hx,rfl,rfl,hod⟩
 obtain⟨cd,hc,hd,bm,hmr,htl⟩:=c.cls
 refine PySem.W.set_plain X J c.sa (ai1 (s:={ s with toks:=s.toks+1 }) c X J ht λb=>?_)
 refine A01 (A06 (A01 (A01 (A4H hx (A01 (A4Q (s:={ s with toks:=s.toks+1 }) (A3I X hc) ?_))))))
 rw[hd]
 refine A06 (a:=some dx) (A01 (A06 (A01 ?_)))
 refine wpAny_nsSet1 (s:={ s with toks:=s.toks+1 }) hn λh' hn2 hs2=>?_
 obtain⟨oD,esD,epD,hoD,hdD,hcD⟩:=hn2.count (Within.cons name v hw)
 refine A01 (wpAny_lookBehind hoD (by rw[hdD];exact pastItsLine_dict (A0L hcD (by rw[A0Z];omega))) ?_)
 exact A06 (hq _ hn2 hs2)
theorem ae1 {M:Model}{ox:Obj}{od:Option Obj}{nameV:Value}{Q:Unit->Shared->Prop}(c:XC K C)(X:K.In s.heap)(I:PySem.W.InstAt s.heap x ox C od)(hq:Q () s) :
  wpAny M A (checkBuiltinCall "BaseException.__getattribute__" ⟨[.ref x,nameV],[]⟩) Q E s:=by
 have sub:PySem.W.Looks M s.heap (isInstance (.ref x) (.type "BaseException")) true:=I.type.andThen (A4O X (c.mro X (by decide +kernel)))
 exact @PySem.W.check_slot M _ _ s "BaseException.__getattribute__" "BaseException" "__getattribute__" (.ref x) [nameV] [] _ (by decide +kernel) (by decide +kernel) sub (PySem.F.args_bexc_ga (.ref x) nameV) hq
theorem av0 {fill expr:Bool}{tk:Tok}{Q:Value->Shared->Prop}{ox:Obj}{od:Option Obj}(c:XC K C)(X:K.In s.heap)(I:PySem.W.InstAt s.heap x ox C od)
  (h:wpAny (model prog w) A.in1 (Builtin.«object.__getattribute__» ⟨[.ref x,.str name tk],[]⟩)
   (λfin s'=>match fin with | .done (.ret v)=>wpAny (model prog w) A (handedOut v) Q E s' | _=>False) (λ_ _=>False) s):wpAny (model prog w) A (getAttrBy (.ref x) (.str name tk) fill expr) Q E s:=by
 obtain⟨hh,g,d,t,os⟩:=s
 have l0:=I.type (M:=model prog w)
 have l1:=A2T (M:=model prog w) X c.ga
 have l2:=A2T (M:=model prog w) X c.gt
 have f3:=PySem.F.excAttr_ValueError.ga.bind (.ref x)
 have e2:(Value.builtin "BaseException.__getattribute__" == Value.builtin "object.__getattribute__")=false:=by decide +kernel
 unfold getAttrBy
 refine A1F (A01 (l0.at (A01 (l1.at ?_))))
 show wpAny _ _ (if(onTheHeap (Value.ref C)&&Value.builtin "BaseException.__getattribute__" == Value.builtin "object.__getattribute__")=true then _ else _) _ _ _
 rw[e2,Bool.and_false,A0Y ∅]
 unfold getAttrByItsOwn hookBefore
 rw[A11 (show onTheHeap (Value.ref C)=true from rfl)]
 refine A01 (l2.at (A01 (wpAny_attempt (A1F ?_))))
 unfold callGetattribute
 rw[A0Y (by cases expr<;>decide)]
 unfold boundAndCalled
 rw[f3]
 refine A01 (A06 (A3G (A4F PySem.F.excAttr_ValueError.ga.plain PySem.F.entry_bexc_ga (ae1 (s:=⟨hh,g,d,t,os⟩) c X I ?_))))
 refine A1O h (λfin s' z=>?_) λ_ _ z=>z.elim
 rcases fin with (_ | _ | _ | _) | _<;>first | exact z | exact z.elim
theorem aC2 {expr:Bool}{Q:Value->Shared->Prop}{ox od:Obj}(c:XC K C)(X:K.In s.heap)(I:PySem.W.InstAt s.heap x ox C (some od))(ht:PySem.W.findIn K (.ref C) name=some none)(hl:PySem.W.lookIn name od=some (some v))
  (hv:PySem.W.handedIn v=true) (h:Q v { s with toks:=s.toks+1 }):wpAny (model prog w) A (getAttr (.ref x) name expr) Q E s:=by
 obtain⟨hh,g,d,t,os⟩:=s
 obtain⟨cd,hc,hd,bm,hmr,htl⟩:=c.cls
 have l0:=I.type (M:=model prog w)
 have hf:PySem.W.findObj K C (some od) name=some (.value v):=by
  unfold PySem.W.findObj PySem.W.ownOf
  simp only[hc,ht,hd,hl,Option.bind_some,if_true]
 have l3:=PySem.W.looks_find (M:=model prog w) X I hf
 unfold getAttr
 refine A01 (wpAny_mkText (av0 (s:=⟨hh,g,d,t+1,os⟩) c X I ?_))
 refine A01 (A06 (A01 (A06 (A01 (l0.at (A01 (l3.at ?_)))))))
 refine A06 ?_
 show wpAny _ _ (handedOut v) _ _ _
 rw[PySem.W.handedOut_of hv];exact A06 h
theorem a83 {Q:Option Value->Shared->Prop}{ox:Obj}{od:Option Obj}(c:XC K C)(X:K.In s.heap)(I:PySem.W.InstAt s.heap x ox C od)(h:Q (some (.ref C)) { s with toks:=s.toks+1 }) :
  wpAny (model prog w) A (getAttr? (.ref x) "__class__") Q E s:=by
 obtain⟨hh,g,d,t,os⟩:=s
 obtain⟨cd,hc,hd,bm,hmr,htl⟩:=c.cls
 have l0:=I.type (M:=model prog w)
 have hf:PySem.W.findObj K C od "__class__" = some (.bind (.builtin "getset_descriptor.__get__") (.builtin "object.__class__")):=by
  unfold PySem.W.findObj
  simp only[hc,c.cl,c.cg,c.ct,Option.bind_some]
 have l3:=PySem.W.looks_find (M:=model prog w) X I hf
 unfold getAttr? getAttrBy?
 refine A01 (wpAny_mkText (A01 (wpAny_attempt ?_)))
 refine av0 (s:=⟨hh,g,d,t+1,os⟩) c X I ?_
 refine A01 (A06 (A01 (A06 (A01 (l0.at (A01 (l3.at ?_)))))))
 show wpAny _ _ (holding [Value.builtin "object.__class__"] (call (.builtin "getset_descriptor.__get__") [.builtin "object.__class__",.ref x,.ref C]) >>= ret) _ _ _
 refine A01 (A1F (A3G (PySem.W.class_get (s:=⟨hh,g,d,t+1,os⟩) (ox:=ox) (od:=od) X I (c.mro X (by decide +kernel)) ?_)))
 refine A06 ?_
 show wpAny _ _ (handedOut (.ref C)) _ _ _
 rw[PySem.W.handedOut_of rfl]
 exact A06 (A06 h)
theorem Xs {od:Option Obj}{ox:Obj}(c:XC K C):PySem.W.KitX K (.ref x) (.ref C) (λh=>PySem.W.InstAt h x ox C od) where
 ty:=λ_ _ _ I=>I.type
 it:=λ_ _ X _=>by
  obtain⟨nm,qn,N,bs,bm,sn,sub,ab,col,dd,k0,k1,k2,k3,k5,hl,htl⟩:=Ks c.ex
  intro A' Q' E' s' k q
  unfold isType loadHead
  exact A01 (A4H (k _ _ (X _ _ hl)) (A06 q))
 ne:=λh tp dd its n sl X htp=>by
  obtain⟨nm,qn,N,bs,bm,sn,sub,ab,col,dd,k0,k1,k2,k3,k5,hl,htl⟩:=Ks c.ex
  refine Bool.eq_false_iff.mpr λq=>?_
  have e:C=tp:=A4W (A1M.mp q)
  subst e
  have z:=congrArg Obj.cls (A0R ((X _ _ hl).symm.trans htp))
  exact absurd (Value.type.inj z) ∅
 ca:=λX I k=>a83 c X I k
end
end L2
namespace L2
open PySem PySem.Spec PyProof.Rows
def exG (n:Bool)(a C:Addr)(od:Option Addr):HO:=.ext λh=>∃ vs sl,h.get? a=some ⟨.ref C,od,.fields vs,sl⟩/\(n=true->vs[1]? = some .none)
abbrev exO (a C:Addr)(od:Option Addr):HO:=exG true a C od
def xdO (dx:Addr)(fs:List (Str×V)):HO:=.ext λh=>∃ mA,h.Ns1 dx mA/\∀ f,RelO (fs.lookup f) (mA f)
section
variable {P:Program}{w:World}{H:Hp}{h:Heap}{a C dx:Addr}{od:Option Addr}{fs:List (Str×V)}
theorem exG_ok {n:Bool}:ObjOk P w H h a (exG n a C od)↔∃ vs sl,h.get? a=some ⟨.ref C,od,.fields vs,sl⟩/\(n=true->vs[1]? = some .none):=
 ⟨λx=>x.1,λ⟨vs,sl,e,z⟩=>⟨⟨vs,sl,e,z⟩,⟨_,e⟩,λh1 h2 ⟨vs,sl,e,z⟩ k=>⟨vs,sl,k _ e,z⟩⟩⟩
theorem exO_ok:ObjOk P w H h a (exO a C od)↔∃ vs sl,h.get? a=some ⟨.ref C,od,.fields vs,sl⟩/\(true=true->vs[1]? = some .none):=exG_ok
theorem xdO_ok:ObjOk P w H h dx (xdO dx fs)↔∃ mA,h.Ns1 dx mA/\∀ f,RelO (fs.lookup f) (mA f):=
 ⟨λx=>x.1,λ⟨mA,n,r⟩=>⟨⟨mA,n,r⟩,(let ⟨o,_,_,e,_⟩:=n;⟨o,e⟩),λh1 h2 ⟨mA,n,r⟩ k=>⟨mA,(let ⟨o,es,ep,e,z⟩:=n;⟨o,es,ep,k _ e,z⟩),r⟩⟩⟩
end
def Di (K:PySem.W.Frag)(C B:Addr):Bool:=(PySem.W.clsIn K C).any λcd=>cd.mro == .ref C :: .ref B :: xB
section
variable {K:PySem.W.Frag}{C B D:Addr}
theorem XC.ty (c:XC K C):PySem.W.typeIn K (.ref C)=some (.type "type"):=by
 obtain⟨nm,qn,N,bs,bm,sn,sub,ab,col,dd,k0,k1,k2,k3,k5,hl,htl⟩:=Ks c.ex
 show Option.map (λx=>x.cls) (List.lookup C K)=_
 rw[hl]
 rfl
theorem an3 (c:XC K C)(hm:Di K C B=true)(d:XC K D):PySem.W.kitOne K (.ref C) (.ref D)=some (C==D||D==B):=by
 unfold PySem.W.kitOne
 by_cases e:C=D
 . subst e;simp
 have e1:(Value.ref C==Value.ref D)=false:=A0W.mpr λq=>e (A4W q)
 have e2:(C==D)=false:=A0W.mpr e
 rw[A0Y (by rw[e1];decide),e2,A4S]
 unfold PySem.W.kitCls
 obtain⟨cd,hc,_⟩:=d.cls
 dsimp only
 rw[A11 (by rw[hc,d.ty];rfl)]
 show PySem.W.mroIn K C (.ref D)=_
 obtain⟨cd,hc,hx⟩:=A42 hm
 unfold PySem.W.mroIn
 rw[hc,A44,A1M.mp hx,A0Y nofun]
 rw[A1J,A1J,show xB.contains (Value.ref D)=false from rfl,Bool.or_false]
 congr 1
 rw[show(Value.ref D==Value.ref C)=false from A0W.mpr λq=>e (A4W q).symm,A4S]
 by_cases eb:D=B
 . subst eb;simp
 rw[show(D==B)=false from A0W.mpr eb,A0W.mpr λq=>eb (A4W q)]
end
section
variable {X:Cx}{pins:List (Addr×Obj)}{σ:St}{H:Hp}{s:Shared}{a C dx:Addr}{fs:List (Str×V)}{f:Str}{v:V}{A:Around}{E:Value->Shared->Prop}
theorem aj5 {n' b:Bool}{Q:Value->Shared->Prop}(I:Inv X pins σ H s)(e:H a=some (exG n' a C (some dx)))(ed:H dx=some (xdO dx fs))(c:XC X.K C)(n:NoAttr X.K C f)(l:fs.lookup f=some v)
  (h:∀ u s',Inv X pins σ H s'->RelV v u->Q u s'):wpAny (model X.prog X.w) A (getAttr (.ref a) f b) Q E s:=by
 obtain⟨vs,sl,e1,_⟩:=exG_ok.mp (I.hok a _ e)
 obtain⟨mA,hn,r⟩:=xdO_ok.mp (I.hok dx _ ed)
 obtain⟨u,hu,ru⟩:=RelO.some_of (v:=v) (o:=mA f) (by rw[<- l];exact r f)
 obtain⟨od,hod,hl⟩:=T5 hn
 exact aC2 c I.kIn ⟨e1,rfl,rfl,hod⟩ n (by rw[hl,hu]) (Rs ru) (h u _ (I.tok _) ru)
theorem Yz {mA:Str->Option Value}(r:∀ f,RelO (fs.lookup f) (mA f)):PySem.Within mA (fs.map (·.1)):=λg hg=>by
 cases q:fs.lookup g with
 | none=>exact absurd (RelO.none_of (by rw[<- q];exact r g)) hg
 | some v=>exact A0I.mpr ⟨(g,v),A27 q,rfl⟩
theorem a95 {y:V}{u:Value}{Q:Unit->Shared->Prop}(I:Inv X pins σ H s)(e:H a=some (exO a C none))(c:XC X.K C)(n:NoAttr X.K C f)(ry:RelV y u)
  (h:∀ dx s',H dx=none->dx≠a->Inv X pins σ (upd (upd H dx (xdO dx [(f,y)])) a (exO a C (some dx))) s'->Q () s'):wpAny (model X.prog X.w) A (setAttr (.ref a) f u) Q E s:=by
 obtain⟨vs,sl,e1,e1n⟩:=exO_ok.mp (I.hok a _ e)
 refine al8 c I.kIn e1 n λh' hn he hk=>?_
 have hf:H s.heap.objs.size=none:=I.hok.fresh (A07 _)
 have hne:s.heap.objs.size≠a:=A3N (A09 e1)
 have na:∀ b,H b=none->b≠a:=λb q z=>by rw[z,e] at q;cases q
 have nd:∀ b u,H b=some u->b≠s.heap.objs.size:=λb u q z=>by rw[z,hf] at q;cases q
 have nb:∀ b o,s.heap.get? b=some o->b≠s.heap.objs.size:=λb o q=>A0J (A09 q)
 have hu:∀ b o,H b=some o->b≠a->upd (upd H s.heap.objs.size (xdO s.heap.objs.size [(f,y)])) a (exO a C (some s.heap.objs.size)) b=some o:=λb o q z=>by rw[Au z,Au (nd b o q)];exact q
 refine h _ _ hf hne (I.un ⟨λb o q z _ _=>hk b o (na b z) q,λb o q z _ _=>⟨o.slots,hk b o (na b z) q⟩,λb o q z _=>by rw[Au (na b z),Au (nb b o q)];exact z,λb o q _=>?_,
  λb xs q=>hu b _ q λz=>?_,λb o u q=>hu b _ q λz=>?_,λb ps q=>⟨#[],?_⟩⟩ λb o q=>?_)
 . by_cases z:b=a
   . subst z;exact⟨_,he⟩
   exact⟨o,hk b o z q⟩
 . rw[z,e] at q;cases q
 . rw[z,e] at q;cases q
 . rw[Array.append_empty]
   exact hu b _ q λz=>by rw[z,e] at q;cases q
 by_cases z:b=a
 . subst z
   rw[Ad] at q;cases q
   exact exO_ok.mpr ⟨_,_,he,e1n⟩
 rw[Au z] at q
 by_cases z2:b=s.heap.objs.size
 . subst z2
   rw[Ad] at q;cases q
   refine xdO_ok.mpr ⟨_,hn,λg=>?_⟩
   show RelO (List.lookup g [(f,y)]) (if g=f then some u else none)
   by_cases q:g=f
   . have hb:(g==f)=true:=A1M.mpr q
     simp only[List.lookup,hb,if_pos q];exact ry
   have hb:(g==f)=false:=A0W.mpr q
   simp only[List.lookup,hb,if_neg q];exact True.intro
 rw[Au z2] at q
 refine(I.hok b o q).stay (λc v hc r=>hk c v (λz3=>?_) r) (λc r=>hu c _ r λz3=>?_) λc xs r=>hu c _ r λz3=>?_
 . subst z3
   rcases hc with hc | hc
   . exact z hc.symm
   rw[e] at hc;cases hc
 . rw[z3,e] at r;cases r
 rw[z3,e] at r;cases r
theorem a78 {y:V}{u:Value}{Q:Unit->Shared->Prop}(I:Inv X pins σ H s)(e:H a=some (exO a C (some dx)))(ed:H dx=some (xdO dx fs))(c:XC X.K C)(n:NoAttr X.K C f)(hl:fs.length<1000)(ry:RelV y u)
  (h:∀ s',Inv X pins σ (upd H dx (xdO dx (Lj f y fs))) s'->Q () s'):wpAny (model X.prog X.w) A (setAttr (.ref a) f u) Q E s:=by
 obtain⟨vs,sl,e1,e1n⟩:=exO_ok.mp (I.hok a _ e)
 obtain⟨mA,hn,r⟩:=xdO_ok.mp (I.hok dx _ ed)
 refine al6 c I.kIn e1 hn (Yz r) (by rw[A00,A14];omega) n λh' hn' hs=>h _ ?_
 have hd:∃ o,h'.get? dx=some o:=let ⟨o,_,_,e',_⟩:=hn';⟨o,e'⟩
 refine I.write (x:=dx) (e:=dx) (by rw[ed];exact A1G) (.inl rfl) (λb q hb z=>(hs.2 b hb).trans z) hd (xdO_ok.mpr ⟨_,hn',λg=>?_⟩)
 rw[Jz]
 by_cases q:g=f
 . rw[A11 q]
   show RelO (some y) (if g=f then some u else mA g)
   rw[A11 q];exact ry
 rw[A0Y q]
 show RelO _ (if g=f then some u else mA g)
 rw[A0Y q];exact r g
end
def ao5 (K:PySem.W.Frag)(f:Str):V->Hp->VK->Prop:=λx H1 Q=>∃ n a C dx fs v,x = .ref a/\H1 a=some (exG n a C (some dx))/\H1 dx=some (xdO dx fs)/\XC K C/\NoAttr K C f/\fs.lookup f=some v/\Q v H1
def ai9 (K:PySem.W.Frag)(ta:TE)(f:Str):TE:=fun σ H Q=>ta σ H λx H1=>ao5 K f x H1 Q
def aD5 (K:PySem.W.Frag)(f:Str)(y:V):V->Hp->(Hp->Prop)->Prop:=λx H2 R=>∃ a C,x = .ref a/\XC K C/\NoAttr K C f /\
 ((H2 a=some (exO a C none)/\∀ dx,H2 dx=none->dx≠a->R (upd (upd H2 dx (xdO dx [(f,y)])) a (exO a C (some dx)))) \/
   ∃ dx fs,H2 a=some (exO a C (some dx))/\H2 dx=some (xdO dx fs)/\fs.length<1000/\R (upd H2 dx (xdO dx (Lj f y fs))))
def an4 (K:PySem.W.Frag)(ta tv:TE)(f:Str):TS:=λD σ H=>tv σ H λy H1=>ta σ H1 λx H2=>aD5 K f y x H2 λH3=>D.nx σ H3
section
variable {X:Cx}{o e value:Expr}{f:Str}{pos pos' tpos:Pos}{ta tv:TE}
theorem ak5 (he:PE X e ta)(hb:attributeBase e f X.env (eval e X.env)=eval e X.env):PE X (.Attribute e f pos) (ai9 X.K ta f):=by
 intro pins s σ H Q I h
 refine a51 hb (thn (he pins s σ H _ I h) λu s1 ⟨x,H1,I1,rx,n',a,C,dx,fs,v,ex,ea,ed,c,n,l,q⟩=>?_)
 subst ex
 obtain rfl:u=Value.ref a:=rx
 exact aj5 I1 ea ed c n l λu' s2 I2 ru=>⟨v,H1,I2,ru,q⟩
theorem ap4 (ha:PE X o ta)(hv:PE X value tv)(hs:swapsWith value (some (.Attribute o f pos')) pos.line X.env=pure false):PS X (.Assign [.Attribute o f pos'] value pos) (an4 X.K ta tv f):=by
 intro pins s σ H D I h
 refine plainObj_wpAny_Assign_Attribute (thn (hv pins s σ H _ I h) λu s1 ⟨y,H1,I1,ry,q⟩=>thn (ha pins s1 σ H1 _ I1 q) λov s2 ⟨x,H2,I2,rx,a,C,ex,c,n,q2⟩=>?_) hs
 subst ex
 obtain rfl:ov=Value.ref a:=rx
 rcases q2 with ⟨ea,q2⟩ | ⟨dx,fs,ea,ed,l,q2⟩
 . exact a95 I2 ea c n ry λdx s3 h1 h2 I3=>⟨σ,_,I3,q2 dx h1 h2⟩
 exact a78 I2 ea ed c n l ry λs3 I3=>⟨σ,_,I3,q2⟩
end
def ExB (n:Bool)(H:Hp)(a C:Addr)(fs:List (Str×V)):Prop:=(fs=[]/\H a=some (exG n a C none))\/∃ dx,dx≠a/\H a=some (exG n a C (some dx))/\H dx=some (xdO dx fs)
abbrev ExA (H:Hp)(a C:Addr)(fs:List (Str×V)):Prop:=ExB true H a C fs
theorem ExB.inst {n:Bool}{P:Program}{w:World}{H:Hp}{h:Heap}{a C:Addr}{fs:List (Str×V)}(e:ExB n H a C fs)(x:HOk P w H h):∃ ox od,PySem.W.InstAt h a ox C od:=by
 rcases e with ⟨_,e⟩ | ⟨dx,_,e,d⟩
 . obtain⟨vs,sl,q,_⟩:=exG_ok.mp (x a _ e)
   exact⟨_,none,q,rfl,rfl,A1G⟩
 obtain⟨vs,sl,q,_⟩:=exG_ok.mp (x a _ e)
 obtain⟨mA,hn,_⟩:=xdO_ok.mp (x dx _ d)
 obtain⟨o,_,_,ho,_⟩:=hn
 exact⟨_,some o,q,rfl,rfl,ho⟩
theorem ExB.same {n:Bool}{H H':Hp}{a C:Addr}{fs:List (Str×V)}(e:ExB n H a C fs)(s:∀ b o,H b=some o->H' b=some o):ExB n H' a C fs:=by
 rcases e with ⟨e1,e⟩ | ⟨dx,ne,e,d⟩
 . exact .inl ⟨e1,s _ _ e⟩
 exact .inr ⟨dx,ne,s _ _ e,s _ _ d⟩
def aq9 (K:PySem.W.Frag):List V->Hp->VK->Prop:=λxs H Q=>∃ n a C fs b,ExB n H a C fs/\XC K C /\
 ((∃ c,xs=[.ref a,.ref c]/\PySem.W.kitOne K (.ref C) (.ref c)=some b)\/(∃ c,xs=[.ref a,.ty c]/\PySem.W.kitOne K (.ref C) (.type c)=some b) \/
   ∃(p:Addr) (cs:List Addr),xs=[.ref a,.ref p]/\H p=some (.tup (cs.map V.ref))/\PySem.W.kitAny K (.ref C) (cs.map Value.ref)=some b)/\Q (.bl b) H
theorem Tb:∀ {cs:List Addr} {us:List Value},Vals (cs.map V.ref) us->us=cs.map Value.ref
 | [], us,r=>by cases us with | nil=>rfl | cons _ _=>cases r
 | c :: cs,us,r=>by
   cases us with
   | nil=>cases r
   | cons u us=>
     cases r with
     | cons r1 r2=>rw[A0X,Tb r2,show u=Value.ref c from r1]
theorem aa3 {X:Cx}:CallR X (.builtin "isinstance") (aq9 X.K):=by
 intro pins s σ H xs us Q I r h
 obtain⟨n,a,C,fs,b,ea,c,hc,q⟩:=h
 obtain⟨ox,od,J⟩:=ea.inst I.hok
 rcases hc with ⟨c',rfl,e⟩ | ⟨c',rfl,e⟩ | ⟨p,cs,rfl,hp,e⟩
 . obtain⟨u,w',rfl,r1,r2⟩:=Tn r
   cases r1;cases r2
   exact A1A (Xs c) I.kIn J e (λz=>nomatch z) λtk=>⟨.bl _,H,I.tok _,rfl,q⟩
 . obtain⟨u,w',rfl,r1,r2⟩:=Tn r
   cases r1;cases r2
   exact A1A (Xs c) I.kIn J e (λz=>nomatch z) λtk=>⟨.bl _,H,I.tok _,rfl,q⟩
 obtain⟨u,w',rfl,r1,r2⟩:=Tn r
 cases r1;cases r2
 obtain⟨_,its,ri,ob,g1,g2,⟨n,g3⟩,g4⟩:=(show ObjOk X.prog X.w H s.heap p (.tup (cs.map V.ref)) from I.hok p _ hp)
 obtain rfl:=Tb ri
 obtain⟨oc,odd,oda,osl⟩:=ob
 dsimp only at g2 g3 g4
 subst g2 g3 g4
 exact PySem.W.kia_tup (Xs c) I.kIn J g1 e (λz=>nomatch z) λtk=>⟨.bl _,H,I.tok _,rfl,q⟩
theorem G4 {X:Cx}{K:PySem.W.Frag}(hK:X.K=K:=by ac_nf):CallR X (.builtin "isinstance") (aq9 K):=hK ▸ aa3
def Mkx (P:Program)(w:World)(K:PySem.W.Frag)(mg:Str->Option Value)(base:Heap)(k:Nat)(C:Addr)(x:Str)(ps:List Str)(sp:Sp):Prop:=
 ∃ f fd,FnOk P w K mg base CX0 k f fd ps sp/\XC K C/\PySem.W.findIn K (.ref C) "__init__" = some (some (.ref f))/\PySem.W.isFn K (.ref f)=true/\PySem.W.keepIn K (.ref C)=true/\mg x=some (.ref C)/\Binds K fd ps []
def X0 (K:PySem.W.Frag)(C:Addr):Bool:=match K.lookup C with
 | some ⟨_,_,.cls cd,_⟩=>PySem.W.nsOkIn K cd.ns&&PySem.W.nsIn K cd.ns "__init__" == some none
 | _=>false
structure aq5 (K:PySem.W.Frag)(mg:Str->Option Value)(C:Addr)(x:Str):Prop where
 xc:XC K C
 no:X0 K C=true
 kp:PySem.W.keepIn K (.ref C)=true
 gl:mg x=some (.ref C)
def aG3 (C:Addr)(sp:Sp)(vs:List V)(H1:Hp)(Q:VK):Prop:=vs.length<=8/\∀ x,H1 x=none->sp (.ref x :: vs) (upd H1 x (exO x C none)) (λv H2=>v = .non/\Q (.ref x) H2) E0
def aH7 (C:Addr)(sp:Sp)(t:TA):TE:=fun σ H Q=>t σ H λvs H1=>aG3 C sp vs H1 Q
def al3 (C:Addr)(vs:List V)(H1:Hp)(Q:VK):Prop:=vs.length<=8/\∀ x,H1 x=none->Q (.ref x) (upd H1 x (exO x C none))
def av4 (C:Addr) (t:TA):TE:=fun σ H Q=>t σ H λvs H1=>al3 C vs H1 Q
theorem Ua {P:Program}{w:World}{H:Hp}{h:Heap}{a:Addr}(x:HOk P w H h)(n:h.get? a=none):H a=none:=by
 cases q:H a with
 | none=>rfl
 | some o=>
   have t:∀ o,ObjOk P w H h a o->∃ u,h.get? a=some u:=λo z=>by
    cases o with
    | lst xs=>obtain⟨_,_,_,_,e⟩:=z;exact⟨_,e⟩
    | tup xs=>obtain⟨_,_,_,_,e,_⟩:=z;exact⟨_,e⟩
    | dK kvs=>obtain⟨_,_,_,_,o,_,_,e,_⟩:=z;exact⟨_,e⟩
    | dT kvs=>obtain⟨_,_,_,_,o,_,_,e,_⟩:=z;exact⟨_,e⟩
    | set S n=>obtain⟨o,_,_,_,e,_⟩:=z;exact⟨_,e⟩
    | ins C dx fs=>obtain⟨_,_,_,e,_⟩:=z;exact⟨_,e⟩
    | own y=>obtain⟨_,e⟩:=z;exact⟨_,e⟩
    | xd fs=>obtain⟨_,⟨_,_,_,e,_⟩,_⟩:=z;exact⟨_,e⟩
    | rng lo hi=>obtain⟨_,_,_,e⟩:=z;exact⟨_,e⟩
    | frz ob u=>obtain⟨e,_⟩:=z;exact⟨_,e⟩
    | tbl ps=>exact⟨_,z⟩
    | met f y=>exact⟨_,z⟩
    | ext φ=>obtain⟨_,e,_⟩:=z;exact e
   obtain⟨u,e⟩:=t o (x a o q)
   rw[n] at e;cases e
theorem Inv.laidN {X:Cx}{pins:List (Addr×Obj)}{σ:St}{H:Hp}{s:Shared}{h':Heap}{a:Addr}{o:HO}{t':Nat}(I:Inv X pins σ H s)(k:∀ b u,s.heap.get? b=some u->h'.get? b=some u)(n:s.heap.get? a=none)
  (new:ObjOk X.prog X.w (upd H a o) h' a o):Inv X pins σ (upd H a o) { s with heap:=h',toks:=t' }:=by
 have hn:=Ua I.hok n
 have nb:∀ b u,s.heap.get? b=some u->b≠a:=λb u q z=>by rw[z,n] at q;cases q
 have nh:∀ b u,H b=some u->upd H a o b=some u:=λb u q=>by rw[Au λz=>by rw[z,hn] at q;cases q];exact q
 refine I.un ⟨λb u q _ _ _=>k b u q,λb u q _ _ _=>⟨u.slots,k b u q⟩,λb u q z _=>by rw[Au (nb b u q)];exact z,λb u q _=>⟨u,k b u q⟩,λb xs q=>nh b _ q,λb ob u q=>nh b _ q,λb ps q=>⟨#[],by rw[Array.append_empty];exact nh b _ q⟩⟩ λb u q=>?_
 by_cases z:b=a
 . subst z;rw[Ad] at q;cases q;exact new
 rw[Au z] at q
 exact(I.hok b u q).stay (λc v _ r=>k c v r) (λc r=>nh c _ r) λc xs r=>nh c _ r
section
variable {X:Cx}{k:Nat}{f C:Addr}{fd:FuncData}{ps:List Str}{sp:Sp}{x:Str}{p pos:Pos}{e:Expr}{es:List Expr}{t:TA}{pins:List (Addr×Obj)}{σ:St}{H:Hp}{s:Shared}{Q:VK}{us:List Value}{vs:List V}
theorem ap7 (M:Mkx X.prog X.w X.K X.mg X.base k C x ps sp)(hr:Room (k+1) X.A)(I:Inv X pins σ H s)(r:Vals vs us)(hz:vs.length<=8)
  (h:∀ x,H x=none->sp (.ref x :: vs) (upd H x (exO x C none)) (λv H2=>v = .non/\Q (.ref x) H2) E0) :
  wpAny (model X.prog X.w) X.A (call (.ref C) us) (EP X pins σ Q) X.xe s:=by
 obtain⟨f,fd,F,c,hi,hf,hk,hm,hb⟩:=M
 have hq:=h (s.heap.objs.size+1) (I.hok.fresh (A20 _))
 have r2:Vals (V.ref (s.heap.objs.size+1) :: vs) (Value.ref (s.heap.objs.size+1) :: us):=.cons rfl r
 have hl:((Value.ref (s.heap.objs.size+1) :: us)++[]).length=ps.length:=by
  have e:=r2.length
  rw[F.len _ _ _ _ hq] at e
  rw[A2I]
  exact e.symm
 have hg1:((s.heap.push (aq4 us)).push (ah7 C s.heap.objs.size)).get? (s.heap.objs.size+1)=some (ah7 C s.heap.objs.size):=by heap_get
 have I2:Inv X pins σ (upd H (s.heap.objs.size+1) (exO (s.heap.objs.size+1) C none)) { s with heap:=(s.heap.push (aq4 us)).push (ah7 C s.heap.objs.size) }:=
  I.laid (a:=s.heap.objs.size+1) (t':=s.toks) (λb u q=>A02 _ (A02 _ q)) (A20 _) (exO_ok.mpr ⟨_,_,hg1,λ_=>rfl⟩)
 obtain⟨hh,g,d,tk,os⟩:=s
 refine ak6 I.kIn c.ex hi (A1M.mp hf) (by rw[<- r.length,A14];omega) (A3G (A2W (F.run _ X.stack _ _ ⟨Value.ref (hh.objs.size+1) :: us,[]⟩ (Value.ref (hh.objs.size+1) :: us) _ _ E0 (hr.make C us [])
  (I2.env0.make C us []) (by have:=hb _ (Value.ref (hh.objs.size+1) :: us) I2.kIn hl;rw[A2I] at this;exact this) r2 hq) λr s' hq'=>?_))
 cases r with
 | error e=>exact False.elim hq'
 | ok fl=>
   cases fl with
   | ret u=>
     obtain⟨v,H',I3,rv,ev,q3⟩:=I2.after hq'
     subst ev
     exact⟨rv,⟨V.ref (hh.objs.size+1),H',I3,rfl,q3⟩⟩
   | next=>exact False.elim hq'
   | brk=>exact False.elim hq'
   | cont=>exact False.elim hq'
theorem Wh (M:Mkx X.prog X.w X.K X.mg X.base k C x ps sp)(hr:Room (k+1) X.A)(hg:Gl X x)(ha:PA X (e :: es) t)(hdb:(x==("__debug__":Str))=false:=by decide)
  (he:starEach (e :: es) X.env=(false,eval e X.env) :: starEach es X.env:=by ac_nf) (hpl:(backTo pos (starEach es X.env)).any (·.1)=false:=by ac_nf) :
  PE X (.Call (.Name x p) (e :: es) [] pos) (aH7 C sp t):=by
 intro pins s σ H Q I h
 have M':=M
 obtain⟨f,fd,F,c,hi,hf,hk,hm,hb⟩:=M'
 refine A1H (K4 I hg hm ?_ hdb)
 refine A2E (h₀:=X.base) I.ok.mod.kin hk (thn (ha pos pins s σ H _ I h) λus s1 ⟨vs,H1,I1,r,z,q⟩=>⟨I1.kIn,?_⟩) he hpl
 exact ap7 M hr I1 r z q
theorem a87 (M:aq5 X.K X.mg C x)(I:Inv X pins σ H s)(r:Vals vs us)(hz:vs.length<=8)(h:∀ x,H x=none->Q (.ref x) (upd H x (exO x C none))) :
  wpAny (model X.prog X.w) X.A (call (.ref C) us) (EP X pins σ Q) X.xe s:=by
 obtain⟨nm,qn,N,bs,bm,sn,sub,ab,col,dd,k0,k1,k2,k3,k5,hl,htl⟩:=Ks M.xc.ex
 have hno:=M.no
 unfold X0 at hno
 rw[hl] at hno
 simp only[Bool.and_eq_true,beq_iff_eq] at hno
 obtain⟨hh,g,d,tk,os⟩:=s
 have Xn:X.K.In hh:=I.kIn
 refine wpAny_call_exc_subT PySem.F.excBase_ValueError (A2G Xn htl) (Xn _ _ hl) (.of_isNs (PySem.W.isNs_of_in Xn hno.1)) (PySem.W.nsMap_none_of_in Xn hno.1 hno.2) (λh' e m=>?_) (by rw[<- r.length,A14];omega)
 obtain⟨t0,he,_⟩:=m.there
 exact⟨.ref e,upd H e (exO e C none),I.laidN (t':=tk) m.keeps m.new (exO_ok.mpr ⟨_,_,he,λ_=>rfl⟩),rfl,h e (Ua I.hok m.new)⟩
theorem Xv (M:aq5 X.K X.mg C x)(hg:Gl X x)(ha:PA X (e :: es) t)(hdb:(x==("__debug__":Str))=false:=by decide)
  (he:starEach (e :: es) X.env=(false,eval e X.env) :: starEach es X.env:=by ac_nf) (hpl:(backTo pos (starEach es X.env)).any (·.1)=false:=by ac_nf) :
  PE X (.Call (.Name x p) (e :: es) [] pos) (av4 C t):=by
 intro pins s σ H Q I h
 refine A1H (K4 I hg M.gl ?_ hdb)
 refine A2E (h₀:=X.base) I.ok.mod.kin M.kp (thn (ha pos pins s σ H _ I h) λus s1 ⟨vs,H1,I1,r,z,q⟩=>⟨I1.kIn,?_⟩) he hpl
 exact a87 M I1 r z q
end
def spX (C:Addr)(fs:List Str):Sp:=λvs H Q _=>∃ a ws,vs = .ref a :: ws/\ws.length=fs.length/\H a=some (exO a C none) /\
 ∀ dx H',H dx=none->dx≠a->(∀ b,b≠a->b≠dx->H' b=H b)->H' a=some (exO a C (some dx))->H' dx=some (xdO dx (fs.zip ws))->Q .non H'
section
variable {X:Cx}{K:PySem.W.Frag}{o e value:Expr}{f:Str}{pos pos':Pos}{ta tv:TE}
theorem Lw (he:PE X e ta)(hb:attributeBase e f X.env (eval e X.env)=eval e X.env)(hK:X.K=K:=by ac_nf):PE X (.Attribute e f pos) (ai9 K ta f):=hK ▸ ak5 he hb
theorem Jh (ha:PE X o ta)(hv:PE X value tv)(hs:swapsWith value (some (.Attribute o f pos')) pos.line X.env=pure false)(hK:X.K=K:=by ac_nf):PS X (.Assign [.Attribute o f pos'] value pos) (an4 K ta tv f):=
 hK ▸ ap4 ha hv hs
end
section
variable {K:PySem.W.Frag}{σ:St}{H:Hp}{Q:VK}{D:Ends}{f:Str}{ta tv:TE}{t:TA}{sp:Sp}{C a dx B G:Addr}{fs:List (Str×V)}{v y:V}{R:Hp->Prop}{vs:List V}
theorem ak1 (k:ta σ H λx H1=>ao5 K f x H1 Q):ai9 K ta f σ H Q:=k
theorem Vf {n':Bool}(h:ExB n' H a C fs)(c:XC K C)(n:NoAttr K C f)(l:fs.lookup f=some v)(k:Q v H):ao5 K f (.ref a) H Q:=by
 rcases h with ⟨rfl,_⟩ | ⟨dx,_,h1,h2⟩
 . cases l
 exact⟨n',a,C,dx,fs,v,rfl,h1,h2,c,n,l,k⟩
theorem aq1 (k:tv σ H λy H1=>ta σ H1 λx H2=>aD5 K f y x H2 λH3=>D.nx σ H3):an4 K ta tv f D σ H:=k
theorem Sw (h:H a=some (exO a C none))(c:XC K C)(n:NoAttr K C f)(k:∀ dx H',H dx=none->dx≠a->(∀ b,b≠a->b≠dx->H' b=H b)->H' a=some (exO a C (some dx))->H' dx=some (xdO dx [(f,y)])->R H'):aD5 K f y (.ref a) H R:=
 ⟨a,C,rfl,c,n,.inl ⟨h,λdx h1 h2=>k dx _ h1 h2 (λb hb hd=>by rw[Au hb,Au hd]) Ad (by rw[Au h2,Ad])⟩⟩
theorem ax9 (h:H a=some (exO a C (some dx)))(hd:H dx=some (xdO dx fs))(c:XC K C)(n:NoAttr K C f)(hl:fs.length<1000)(k:∀ H',(∀ b,b≠dx->H' b=H b)->H' dx=some (xdO dx (Lj f y fs))->R H'):aD5 K f y (.ref a) H R:=
 ⟨a,C,rfl,c,n,.inr ⟨dx,fs,h,hd,hl,k _ (λb hb=>Au hb) Ad⟩⟩
theorem aA7 (k:t σ H λvs H1=>aG3 C sp vs H1 Q):aH7 C sp t σ H Q:=k
theorem a84 {gs:List Str}(hl:vs.length=gs.length)(hz:gs.length<=8)(k:∀ x H',H x=none->Same H H'->ExA H' x C (gs.zip vs)->Q (.ref x) H'):aG3 C (spX C gs) vs H Q:=by
 refine⟨by omega,λx hx=>⟨x,vs,rfl,hl,Ad,λdx H' h1 h2 h3 h4 h5=>⟨rfl,k x H' hx (λb u q=>?_) (.inr ⟨dx,h2,h4,h5⟩)⟩⟩⟩
 have b1:b≠x:=ne_of_none q hx
 rw[Au h2] at h1
 rw[h3 b b1 (ne_of_none q h1),Au b1]
 exact q
theorem aj3 (k:t σ H λvs H1=>al3 C vs H1 Q):av4 C t σ H Q:=k
theorem af2 (hz:vs.length<=8)(k:∀ x H',H x=none->Same H H'->ExA H' x C []->Q (.ref x) H'):al3 C vs H Q:=
 ⟨hz,λx hx=>k x _ hx (λb u q=>by rw[Au (ne_of_none q hx)];exact q) (.inl ⟨rfl,Ad⟩)⟩
theorem Fl {n' b:Bool}(h:ExB n' H a C fs)(c:XC K C)(e:PySem.W.kitOne K (.ref C) (.ref G)=some b)(k:Q (.bl b) H):aq9 K [.ref a,.ref G] H Q:=⟨n',a,C,fs,b,h,c,.inl ⟨G,rfl,e⟩,k⟩
theorem So {n' b:Bool}{T:String}(h:ExB n' H a C fs)(c:XC K C)(e:PySem.W.kitOne K (.ref C) (.type T)=some b)(k:Q (.bl b) H):aq9 K [.ref a,.ty T] H Q:=⟨n',a,C,fs,b,h,c,.inr (.inl ⟨T,rfl,e⟩),k⟩
theorem Sk {n' b:Bool}{p:Addr}{cs:List Addr}(h:ExB n' H a C fs)(c:XC K C)(hp:H p=some (.tup (cs.map V.ref)))(e:PySem.W.kitAny K (.ref C) (cs.map Value.ref)=some b)(k:Q (.bl b) H):aq9 K [.ref a,.ref p] H Q:=
 ⟨n',a,C,fs,b,h,c,.inr (.inr ⟨p,cs,rfl,hp,e⟩),k⟩
end
theorem Nn {K:PySem.W.Frag}{C B:Addr}(hm:Di K C B=true):PySem.W.kitOne K (.ref C) (.type "ValueError")=some true:=by
 obtain⟨cd,hc,hx⟩:=A42 hm
 unfold PySem.W.kitOne
 rw[A0Y (by rw[A0W.mpr (by intro q;cases q)];decide)]
 unfold PySem.W.kitCls
 dsimp only
 rw[A11 (by decide +kernel)]
 show PySem.W.mroIn K C _=_
 unfold PySem.W.mroIn
 rw[hc,A44,A1M.mp hx,A0Y nofun,A1J,A1J,show xB.contains (Value.type "ValueError")=true by decide +kernel,A3Q,A3Q]
structure Lft (fs:List Addr)(a:Addr)(oe:Obj)(old:List Addr)(h h':Heap):Prop where
 keep:∀ b o,b∉fs->b≠a->b∉old->h.get? b=some o->h'.get? b=some o
 slot:∀ b o,b∈fs->h.get? b=some o->∃ sl,h'.get? b=some { o with slots:=sl }
 there:∀ b o,h.get? b=some o->∃ o',h'.get? b=some o'
 tr:∃ oe' vs T oT ts,h'.get? a=some oe'/\oe'.cls=oe.cls/\oe'.dict=oe.dict/\oe'.slots=oe.slots/\oe'.data = .fields vs/\vs[1]? = some (.ref T)/\T≠a/\h.get? T=none/\h'.get? T=some oT/\oT.data = .fields ts/\ts[3]? = some .none
section
variable {M:Model}{A:Around}{E:Value->Shared->Prop}{s:Shared}{base:Heap}{env:Env}{outer:List Env}{L a:Addr}{oe:Obj}{vs:Array Value}{Q:Unit->Shared->Prop}
theorem Zn (o:Obj)(g:Array Value->Array Value):(o.mapFields g).dict=o.dict/\(o.mapFields g).slots=o.slots/\(o.mapFields g).cls=o.cls:=by
 obtain⟨c,d,dt,sl⟩:=o
 cases dt<;>exact⟨rfl,rfl,rfl⟩
theorem Wo {head:Value}{hadNext:Bool}(hfr:A.frames=some (env :: outer))(hl:s.heap.FunFrames base (env :: outer))(hf:env.frame=some L)(he:s.heap.get? a=some oe)(hd:oe.data = .fields vs)(hsz:1<vs.size)
  (h:∀ h',Lft (frs (env :: outer)) a oe [] s.heap h'->Q () { s with heap:=h' }) :
  wpAny M A (do let x <- frameOf env;let pl <- entryPlaceOf L hadNext;let b <- EntryCells.newEntry head x .none (rawInt L) .none pl;setField (.ref a) 1 b) (λ_ s'=>wpAny M A (setFlight (.ref a) none) Q E s') E s:=by
 have ha:a∉frs (env :: outer):=λhm=>by
  obtain⟨_,o,ho,hnf⟩:=hl.mem hm
  rw[he] at ho;cases ho;exact hnf vs hd
 refine A01 (wpAny_frameOf_fun hfr hl hf λh1 k1=>?_)
 refine A01 (wpAny_entryPlaceOf λpl hpl=>?_)
 unfold EntryCells.newEntry newFields
 refine A01 (A23 ?_ (hpl.sizeOk5 _ _ _ _ _))
 generalize hob:(Obj.mk (Value.type "traceback") none (Data.fields ([head,Value.ref L,Value.none,rawInt L,Value.none]++(if pl.isEmpty then List.replicate 6 Value.none else pl)).toArray) #[]:Obj)=ob
 have obd:ob.data = .fields ([head,Value.ref L,Value.none,rawInt L,Value.none]++(if pl.isEmpty then List.replicate 6 Value.none else pl)).toArray:=by rw[<- hob]
 have hob2:ob.isFreed=false:=A2J obd
 have he1:h1.get? a=some oe:=(k1.2.1 a ha).trans he
 have he2:=A02 (h:=h1) ob he1
 refine A4I he2 hd hsz ?_
 have hTe:h1.objs.size≠a:=A3N (A09 he1)
 have d3:=A32 hd (·.setIfInBounds 1 (Value.ref h1.objs.size))
 have he3:=A1X (Obj.mapFields (·.setIfInBounds 1 (Value.ref h1.objs.size))) he2 (A2J d3)
 have hT3:=(A1E (h1.push ob) (Obj.mapFields (·.setIfInBounds 1 (Value.ref h1.objs.size))) (Ne.symm hTe)).trans (A0E h1 hob2)
 unfold setFlight
 refine wpAny_bind (wpAny_field he3 d3 (x:=.ref h1.objs.size) (by simp[hsz]) ?_)
 rw[if_pos (show(Value.ref h1.objs.size != Value.none)=true from by simp)]
 refine wpAny_setField hT3 obd (by simp only[List.size_toArray,List.length_append,List.length_cons,List.length_nil]<;>omega) (h _ ?_)
 have kp:∀ b o,b≠a->h1.get? b=some o->(((h1.push ob).update a (Obj.mapFields (·.setIfInBounds 1 (Value.ref h1.objs.size)))).update h1.objs.size (Obj.mapFields (·.setIfInBounds 3 ((none:Option Addr).elim Value.none λf=>rawInt f)))).get? b=some o:=λb o hbe hb=>by
  rw[A1E _ _ (A3N (A09 hb)),A1E _ _ (Ne.symm hbe)]
  exact A02 _ hb
 have hea:=(A1E _ (Obj.mapFields (·.setIfInBounds 3 ((none:Option Addr).elim Value.none λf=>rawInt f))) hTe).trans he3
 refine⟨λb o hb hba _ q=>kp b o hba ((k1.2.1 b hb).trans q),λb o hb q=>?_,λb o q=>?_,?_⟩
 . obtain⟨sl,z⟩:=k1.2.2 b o q
   exact⟨sl,kp b _ (λw=>ha (w ▸ hb)) z⟩
 . by_cases w:b=a
   . subst w;exact⟨_,hea⟩
   obtain⟨sl,z⟩:=k1.2.2 b o q
   exact⟨_,kp b _ w z⟩
 obtain⟨m1,m2,m3⟩:=Zn oe (·.setIfInBounds 1 (Value.ref h1.objs.size))
 refine⟨_,_,h1.objs.size,_,_,hea,m3,m1,m2,d3,by simp[hsz],hTe,Heap.get?_none_of_le (by rw[k1.1];exact Nat.le_refl _),Heap.get?_update_self _ hT3 (Obj.isFreed_of_fields (Obj.data_mapFields obd _)),Obj.data_mapFields obd _,?_⟩
 rcases hpl with rfl | ⟨_,_,_,_,_,_,_,rfl⟩<;>simp
theorem a70 (hfr:A.frames=some (env :: outer))(hl:s.heap.FunFrames base (env :: outer))(hf:env.frame=some L)(he:s.heap.get? a=some oe)(hd:oe.data = .fields vs)(h1:vs[1]? = some .none)
  (h:∀ h',Lft (frs (env :: outer)) a oe [] s.heap h'->Q () { s with heap:=h' }):wpAny M A (leaving env (.ref a)) Q E s:=by
 unfold leaving noteFrame
 simp only[hf]
 refine A01 (A01 (A28 he hd h1 ?_))
 rw[A0Y ∅]
 exact Wo hfr hl hf he hd (A1U.mp h1).1 h
theorem Wf {T:Addr}{oT:Obj}{ts:Array Value}(hfr:A.frames=some (env :: outer))(hl:s.heap.FunFrames base (env :: outer))(hf:env.frame=some L)(he:s.heap.get? a=some oe)(hd:oe.data = .fields vs)(h1:vs[1]? = some (.ref T))
  (hTe:T≠a) (hT:s.heap.get? T=some oT) (hdT:oT.data = .fields ts) (h3:ts[3]? = some .none)
  (h:∀ h',Lft (frs (env :: outer)) a oe [T] s.heap h'->Q () { s with heap:=h' }):wpAny M A (noteFrame (.ref a) env) (λ_ s'=>wpAny M A (setFlight (.ref a) none) Q E s') E s:=by
 unfold noteFrame
 simp only[hf]
 refine A01 (A28 he hd h1 ?_)
 rw[if_pos (show(Value.ref T != Value.none)=true from by simp)]
 refine A01 (A28 hT hdT h3 ?_)
 rw[if_neg (show ¬ ((Value.none==rawInt L)=true) from by simp[rawInt])]
 refine A01 (A4I hT hdT (A1U.mp h3).1 ?_)
 have ot:∀ b,b≠T->(s.heap.update T (Obj.mapFields (·.setIfInBounds 3 Value.none))).get? b=s.heap.get? b:=λb hb=>A1E _ _ (Ne.symm hb)
 have tt:=A1X (Obj.mapFields (·.setIfInBounds 3 Value.none)) hT (A2J (A32 hdT _))
 have nT:∀ b o,s.heap.get? b=some o->(∀ us,o.data ≠ .fields us)->b≠T:=λb o hb hnf q=>by
  rw[q,hT] at hb;cases hb;exact hnf ts hdT
 have fT:T∉frs (env :: outer):=λhm=>by
  obtain⟨_,o,ho,hnf⟩:=hl.mem hm
  exact nT T o ho hnf rfl
 refine Wo (hl:=hl.of_keeps λb o hb hnf=>⟨o,(ot b (nT b o hb hnf)).trans hb,rfl⟩) hfr hf ((ot a (Ne.symm hTe)).trans he) hd (A1U.mp h1).1 λh' l=>h h' ?_
 obtain⟨x1,x2,x3,oe',us,T',oT',ts',q1,q2,q3,q4,q5,q6,q7,q8,q9⟩:=l
 refine⟨λb o hb hba hbt q=>x1 b o hb hba nofun ((ot b λz=>hbt (by simp[z])).trans q),λb o hb q=>x2 b o hb ((ot b λz=>fT (z ▸ hb)).trans q),λb o q=>?_,oe',us,T',oT',ts',q1,q2,q3,q4,q5,q6,q7,?_,q9⟩
 . by_cases z:b=T
   . subst z;exact x3 _ _ tt
   exact x3 b o ((ot b z).trans q)
 by_cases z:T'=T
 . rw[z,tt] at q8;cases q8
 rw[<- ot T' z];exact q8
theorem aj1 {T:Addr}{oT:Obj}{ts:Array Value}(hfr:A.frames=some (env :: outer))(hl:s.heap.FunFrames base (env :: outer))(hf:env.frame=some L)(he:s.heap.get? a=some oe)(hd:oe.data = .fields vs)(h1:vs[1]? = some (.ref T))
  (hTe:T≠a) (hT:s.heap.get? T=some oT) (hdT:oT.data = .fields ts) (h3:ts[3]? = some .none)
  (h:∀ h',Lft (frs (env :: outer)) a oe [T] s.heap h'->Q () { s with heap:=h' }):wpAny M A (leaving env (.ref a)) Q E s:=by
 unfold leaving
 exact A01 (Wf hfr hl hf he hd h1 hTe hT hdT h3 h)
end
def Tra (a:Addr)(H':Hp)(h0 h:Heap):Prop:=∃ oe vs T oT ts,h.get? a=some oe/\oe.data = .fields vs/\vs[1]? = some (.ref T)/\T≠a/\h.get? T=some oT/\oT.data = .fields ts/\ts[3]? = some .none/\H' T=none/\h0.get? T=none
def CX1 (P:Program)(w:World):CXT:=λouter H s E e s'=>∃ a C od H',e = .ref a/\s'.os=s.os/\AllBare s'.gens/\Un (frs outer) [] H H' s.heap s'.heap/\HOk P w H' s'.heap/\H' a=some (exG false a C od)/\s.heap.get? a=none/\Tra a H' s.heap s'.heap/\E (.ref a) none H'
section
variable {P:Program}{w:World}{fs:List Addr}{a C:Addr}{od:Option Addr}{oe:Obj}{old:List Addr}{h h':Heap}{H:Hp}{n:Bool}
theorem Lft.hok (l:Lft fs a oe old h h')(ok:HOk P w H h)(he:h.get? a=some oe)(ha:H a=some (exG n a C od))(hfs:∀ b∈fs,H b=none)(hold:∀ b∈old,H b=none):HOk P w (upd H a (exG false a C od)) h':=λb u q=>by
 have hu:∀ c z,H c=some z->c≠a->upd H a (exG false a C od) c=some z:=λc z r ne=>by rw[Au ne];exact r
 by_cases hb:b=a
 . subst hb
   rw[Ad] at q;cases q
   obtain⟨vs,sl,e1,_⟩:=exG_ok.mp (ok b _ ha)
   rw[he] at e1;cases e1
   obtain⟨oe',us,T,oT,ts,q1,q2,q3,q4,q5,_⟩:=l.tr
   obtain⟨c,d,dt,s4⟩:=oe'
   dsimp only at q2 q3 q4 q5
   subst q2 q3 q4 q5
   exact exG_ok.mpr ⟨us,_,q1,λz=>Bool.noConfusion z⟩
 rw[Au hb] at q
 refine(ok b u q).stay (λc v hc r=>?_) (λc r=>hu c _ r λz=>?_) λc xs r=>hu c _ r λz=>?_
 . have hcn:∃ z,H c=some z:=by
    rcases hc with hc | hc
    . exact⟨u,hc ▸ q⟩
    exact⟨_,hc⟩
   obtain⟨z,hz⟩:=hcn
   refine l.keep c v (λm=>by rw[hfs c m] at hz;cases hz) (λe=>?_) (λm=>by rw[hold c m] at hz;cases hz) r
   subst e
   rcases hc with hc | hc
   . exact hb hc.symm
   rw[ha] at hc;cases hc
 . rw[z,ha] at r;cases r
 rw[z,ha] at r;cases r
end
section
variable {P:Program}{w:World}{K:PySem.W.Frag}{mg:Str->Option Value}{base:Heap}{N:List Str}{qual:Str}{scope:Scope}{f:Addr}{cd:Value}{A:Around}{outer:List Env}{s₀:Shared}{H₀:Hp}{E:XK}
theorem Yk {h h':Heap}:∀ {l:List Env},h.FunFrames base l->(∀ b∈frs l,∀ o,h.get? b=some o->∃ sl,h'.get? b=some { o with slots:=sl })->h'.FunFrames base l
 | [],_,_=>A1G
 | env :: r,hl,k=>by
   obtain⟨hk,⟨L,o,hf,hn,ho,hd⟩,hr⟩:=hl
   have e:frs (env :: r)=L :: frs r:=by unfold frs;rw[List.filterMap_cons,hf]
   obtain⟨sl,z⟩:=k L (by rw[e];exact A0V) o ho
   exact⟨hk,⟨L,_,hf,hn,z,hd⟩,Yk hr λb hb=>k b (by rw[e];exact A0C _ hb)⟩
theorem ax0 {CX:CXT}{pins:List (Addr×Obj)}{σ:St}{H1 H2:Hp}{s1 s2:Shared}{h3:Heap}{a C:Addr}{od:Option Addr}{oe:Obj}{old:List Addr}{n:Bool}(I:Inv (Vl CX P w K mg base N qual scope f cd A outer s₀ H₀ E) pins σ H1 s1)
  (os:s2.os=s1.os) (bare:AllBare s2.gens) (un:Un (frs (envOfC qual scope s₀.heap.objs.size f cd :: outer)) [] H1 H2 s1.heap s2.heap) (ok:HOk P w H2 s2.heap) (ha:H2 a=some (exG n a C od)) (he:s2.heap.get? a=some oe) (hn:s₀.heap.get? a=none) (hold:∀ b∈old,H2 b=none/\s₀.heap.get? b=none)
  (l:Lft (frs (envOfC qual scope s₀.heap.objs.size f cd :: outer)) a oe old s2.heap h3) (q:E (.ref a) none (upd H2 a (exG false a C od))) :
  CX1 P w outer H₀ s₀ E (.ref a) { s2 with heap:=h3 }:=by
 have stk:∀ b∈frs (envOfC qual scope s₀.heap.objs.size f cd :: outer),b=s₀.heap.objs.size\/b∈frs outer:=λb hb=>by
  rcases A0K.mp (I.stkSub b hb) with z | z
  . exact .inl z
  exact .inr z
 have fr2:∀ b∈frs (envOfC qual scope s₀.heap.objs.size f cd :: outer),H2 b=none:=λb hb=>by
  obtain⟨_,o,ho,_⟩:=I.stack.mem hb
  exact un.free b o ho (I.stkFree b hb) nofun
 obtain⟨oe',us,T,oT,ts,q1,q2,q3,q4,q5,q6,q7,q8,q9,q10,q11⟩:=l.tr
 have nl:∀ b o,s₀.heap.get? b=some o->b≠s₀.heap.objs.size:=λb o z=>A0J (A09 z)
 have na:∀ b o,s₀.heap.get? b=some o->b≠a:=λb o z e=>by rw[e,hn] at z;cases z
 have no:∀ b o,s₀.heap.get? b=some o->b∉old:=λb o z e=>by rw[(hold b e).2] at z;cases z
 have tn:H2 T=none:=Ua ok q8
 have t0:s₀.heap.get? T=none:=by
  cases z:s₀.heap.get? T with
  | none=>rfl
  | some o=>
    obtain⟨o1,z1⟩:=I.base.there T o z (by intro m;cases m)
    obtain⟨o2,z2⟩:=un.there T o1 z1 nofun
    rw[q8] at z2;cases z2
 have hu:∀ c z,H2 c=some z->z≠exG n a C od->upd H2 a (exG false a C od) c=some z:=λc z r ne=>by rw[Au λe=>ne (by rw[e,ha] at r;exact(A0R r).symm)];exact r
 refine⟨a,C,od,upd H2 a (exG false a C od),rfl,os.trans I.os,bare,⟨λb o z nz hb _=>?_,λb o z nz hb _=>?_,λb o z nz _=>?_,λb o z _=>?_,λb xs z=>?_,λb o u z=>?_,λb ps z=>?_⟩,l.hok ok he ha fr2 (λb m=>(hold b m).1),Ad,hn,⟨oe',us,T,oT,ts,q1,q5,q6,q7,q9,q10,q11,by rw[Au q7];exact tn,t0⟩,q⟩
 . have z1:=I.base.keep b o z nz hb (by intro m;cases m)
   have n1:=I.base.free b o z nz (by intro m;cases m)
   have hb2:b∉frs (envOfC qual scope s₀.heap.objs.size f cd :: outer):=λm=>(stk b m).elim (nl b o z) hb
   exact l.keep b o hb2 (na b o z) (no b o z) (un.keep b o z1 n1 hb2 nofun)
 . obtain⟨sl,z1⟩:=I.base.slot b o z nz hb (by intro m;cases m)
   have n1:=I.base.free b o z nz (by intro m;cases m)
   obtain⟨sl2,z2⟩:=un.any z1 n1 nofun
   by_cases m:b∈frs (envOfC qual scope s₀.heap.objs.size f cd :: outer)
   . obtain⟨sl3,z3⟩:=l.slot b _ m z2
     exact⟨sl3,z3⟩
   exact⟨sl2,l.keep b _ m (na b o z) (no b o z) z2⟩
 . obtain⟨o1,z1⟩:=I.base.there b o z (by intro m;cases m)
   have n1:=I.base.free b o z nz (by intro m;cases m)
   show upd H2 a _ b=none
   rw[Au (na b o z)]
   exact un.free b o1 z1 n1 nofun
 . obtain⟨o1,z1⟩:=I.base.there b o z (by intro m;cases m)
   obtain⟨o2,z2⟩:=un.there b o1 z1 nofun
   exact l.there b o2 z2
 . exact hu b _ (un.tups b xs (I.base.tups b xs z)) (λe=>nomatch e)
 . exact hu b _ (un.frzs b o u (I.base.frzs b o u z)) (λe=>nomatch e)
 obtain⟨m1,z1⟩:=I.base.tbls b ps z
 obtain⟨m2,z2⟩:=un.tbls b _ z1
 exact⟨m1++m2,by rw[<- Array.append_assoc];exact hu b _ z2 (λe=>nomatch e)⟩
theorem aF3 (hfr:scope.kind ≠ .module)(hE:∀ a H C od,H a=some (exG false a C od)->E (.ref a) none H->E (.ref a) none (upd H a (exG false a C od))):He (CX1 P w) (Vl (CX1 P w) P w K mg base N qual scope f cd A outer s₀ H₀ E) E:=by
 intro pins σ H1 s1 e s' I hq
 obtain ⟨a,C,od,H2,rfl,os,bare,un,ok,ha,hn,⟨oe,vs,T,oT,ts,t1,t2,t3,t4,t5,t6,t7,t8,t9⟩,q⟩:=hq
 have hn0:s₀.heap.get? a=none:=by
  cases z:s₀.heap.get? a with
  | none=>rfl
  | some o=>
    obtain⟨o1,z1⟩:=I.base.there a o z (by intro m;cases m)
    rw[hn] at z1;cases z1
 have hT0:s₀.heap.get? T=none:=by
  cases z:s₀.heap.get? T with
  | none=>rfl
  | some o=>
    obtain⟨o1,z1⟩:=I.base.there T o z (by intro m;cases m)
    rw[t9] at z1;cases z1
 have fun2:s'.heap.FunFrames base (envOfC qual scope s₀.heap.objs.size f cd :: outer):=Yk I.stack λb hb o ho=>un.any ho (I.stkFree b hb) nofun
 refine aj1 (base:=base) (L:=s₀.heap.objs.size) (I.ok.frames) fun2 rfl t1 t2 t3 t4 t5 t6 t7 λh3 l=>?_
 exact ax0 I os bare un ok ha t1 hn0 (λb hb=>by simp at hb;subst hb;exact⟨t8,hT0⟩) l (hE a H2 C od ha q)
theorem W2 {H:Hp}{a:Addr}{o:HO}(h:H a=some o):upd H a o=H:=by
 funext b
 unfold upd
 split
 . rename_i e;rw[e,h]
 rfl
theorem Vn:He (CX1 P w) (Vl (CX1 P w) P w K mg base N qual scope f cd A outer s₀ H₀ E) E:=by
 intro pins σ H1 s1 e s' I hq
 exact aF3 (by have:=I.ok.kind;show scope.kind≠_;rw[show scope.kind = .function from this];decide) (λa H C od h q=>by rw[W2 h];exact q) pins σ H1 s1 e s' I hq
def Yq (K:PySem.W.Frag)(H0:Hp)(E:XK)(x:V)(H1:Hp):Prop:=∃ a C od,x = .ref a/\H1 a=some (exO a C od)/\XC K C/\H0 a=none/\E (.ref a) none (upd H1 a (exG false a C od))
def af8 (K:PySem.W.Frag)(H0:Hp)(E:XK)(t:TE):TS:=λD σ H=>t σ H λx H1=>Yq K H0 E x H1
theorem Jj {ex:Expr}{t:TE}{pos:Pos}{X:Cx}(hX:X=Vl (CX1 P w) P w K mg base N qual scope f cd A outer s₀ H₀ E)(he:PE X ex t):PS X (.Raise (some ex) none pos) (af8 K H₀ E t):=by
 subst hX
 intro pins s σ H D I h
 rw[arm_exec_Raise]
 refine A01 (A3X ?_)
 unfold raiseStmt
 simp only[evalOpt,Option.map]
 refine A01 (A01 (thn (he pins s σ H _ I h) λv s1 ⟨x,H1,I1,rx,a,C,od,ex',ha,hc,h0,q⟩=>A01 (A3X (A06 ?_))))
 subst ex'
 obtain rfl:v=Value.ref a:=rx
 obtain⟨vs,sl,hx,hv⟩:=exO_ok.mp (I1.hok a _ ha)
 have hv:=hv rfl
 obtain⟨nm,qn,N',bs,bm,sn,sub,ab,col,dd,k0,k1,k2,k3,k5,hl,htl⟩:=Ks hc.ex
 have hC:=I1.kIn _ _ hl
 have hcB:(Value.ref C :: bm).contains (.type "BaseException")=true:=by rw[A1J,ai0 (A2G I1.kIn htl),A3Q]
 have fin:(Vl (CX1 P w) P w K mg base N qual scope f cd A outer s₀ H₀ E).xe (.ref a) s1:=by
  refine a70 (base:=base) (L:=s₀.heap.objs.size) I1.ok.frames I1.stack rfl hx rfl hv λh3 l=>?_
  have hn0:s₀.heap.get? a=none:=by
   cases z:s₀.heap.get? a with
   | none=>rfl
   | some o=>
     have:=I1.base.free a o z h0 (by intro m;cases m)
     rw[ha] at this;cases this
  exact ax0 I1 rfl I1.bare Un.refl I1.hok ha hx hn0 nofun l q
 obtain⟨hh,g,d,tk,os⟩:=s1
 repeat (first | (with_reducible refine A24 hx ?_) | (with_reducible refine A24 hC ?_) | (with_reducible refine A4N hC ?_;rw[hcB]) | (with_reducible refine A28 hx rfl hv ?_) | wp_step)
 exact wpAny_raiseNew_none (I1.ok.hd rfl) fin
end
section
variable {X:Cx}{pins:List (Addr×Obj)}{σ:St}{H:Hp}{s:Shared}
theorem R8 {M:Model}{A:Around}{E:Value->Shared->Prop}{i:Nat}{x:Str}{pos:Pos}{Q:Unit->Shared->Prop}(I:Inv X pins σ H s)(hN:X.N.Nodup)(hi:X.N[i]? = some x)(hk:X.env.scope.names.lookup x=some .local)
  (h:∀ s',Inv X pins (σ.set i none) H s'->Q () s'):wpAny M A (do bindName X.env x .none;unbindBehindTheSuite X.env x pos) Q E s:=by
 refine A01 (wpAny_bindName (Ly (v:=.non) (u:=.none) I hN hi (.inl hk) rfl (λs1 I1=>?_) (.inr hk)))
 unfold unbindBehindTheSuite
 refine wpAny_onRaise ?_
 obtain⟨m,hn,hl⟩:=id I1.loc
 have hcls:(X.env.scope.kind == .class||(X.env.scope.kind == .module&&X.env.locals != X.env.globals))=false:=by rw[I1.ok.kind];rfl
 have hiσ:i<σ.length:=by rw[I.len];exact(A03.mp hi).1
 obtain⟨u,ru,lu⟩:=hl i x .non hi (A34 hiσ) (.inl hk)
 have hmx:m x=some u:=by
  rcases lu with ⟨_,z⟩ | ⟨z,_⟩
  . exact z
  have z':X.env.scope.names.lookup x=some .cell\/X.env.scope.names.lookup x=some .free:=z
  rw[hk] at z'
  rcases z' with z' | z'<;>cases z'
 refine wpAny_unbindName_local hk hn hmx hcls λh' w hn' hs=>h _ ?_
 obtain⟨oL,_,_,hoL,_⟩:=id hn
 have cne:=I1.cne
 refine⟨I1.ok,I1.os,I1.bare,⟨λb o e n hb hx=>?_,λb o e n hb hx=>?_,I1.base.free,λb o e hx=>?_,I1.base.tups,I1.base.frzs,I1.base.tbls⟩,⟨_,hn',λj y v' e1 e2 e3=>?_⟩,λy c e=>?_,I1.free,I1.freeC,λp hp=>?_,λb ob e=>?_,by simpa using I.len⟩
 . exact(hs.2 b (A0J (A0U (A09 e) I1.ok.above))).trans (I1.base.keep b o e n hb hx)
 . obtain⟨sl,e1⟩:=I1.base.slot b o e n hb hx
   exact⟨sl,(hs.2 b (A0J (A0U (A09 e) I1.ok.above))).trans e1⟩
 . obtain⟨o',e1⟩:=I1.base.there b o e hx
   exact⟨o',(hs.2 b (A0J (A0U (A09 e) I1.ok.above))).trans e1⟩
 . by_cases hj:j=i
   . subst hj
     rw[A34 hiσ] at e2
     cases e2
   rw[A1R (Ne.symm hj)] at e2
   obtain⟨u',r',q⟩:=hl j y v' e1 (by rw[A1R (Ne.symm hj)];exact e2) e3
   refine⟨u',r',?_⟩
   rcases q with ⟨k,e⟩ | ⟨k,c,e,z⟩
   . refine .inl ⟨k,?_⟩
     have ne:y≠x:=λe=>hj (Rj hN e1 (e ▸ hi))
     simp[ne,e]
   exact .inr ⟨k,c,e,z.sameBut hs (cne y c e)⟩
 . obtain⟨w',z⟩:=I1.cell y c e
   exact⟨w',z.sameBut hs (cne y c e)⟩
 . obtain⟨e,n,ne,nf,d⟩:=I1.pin p hp
   exact⟨(hs.2 p.1 ne).trans e,n,ne,nf,d⟩
 refine(I1.hok b ob e).stay (λc w' hc q=>(hs.2 c ?_).trans q) (λ_ q=>q) λ_ _ q=>q
 rintro rfl
 rcases hc with hc | hc
 . rw[<- hc] at e;rw[I1.free] at e;cases e
 rw[I1.free] at hc;cases hc
abbrev Cx.tri (X:Cx)(pins:List (Addr×Obj))(E:Value->Shared->Prop):Cx:={ X with xe:=E,pn:=X.pn++pins }
abbrev Cx.hnd (X:Cx)(a:Addr)(E:Value->Shared->Prop):Cx:={ X with A:=X.A.mark (some (.ref a)),calm:=false,xe:=E }
theorem Inv.tri (I:Inv X pins σ H s)(E:Value->Shared->Prop):Inv (X.tri pins E) [] σ H s:=
 ⟨⟨I.ok.mod,I.ok.kind,I.ok.glob,I.ok.blt,I.ok.above,I.ok.inj,I.ok.has,I.ok.cab,I.ok.hd,I.ok.frames,I.ok.stk,I.ok.exf,I.ok.bs,I.ok.bsz,I.ok.noex,I.ok.exfs,I.ok.funs,I.ok.frf⟩,I.os,I.bare,I.base,I.loc,I.cell,I.free,I.freeC,λp hp=>I.pin p (by simpa using hp),I.hok,I.len⟩
theorem Inv.untri {E:Value->Shared->Prop}{more:List (Addr×Obj)}(I:Inv (X.tri pins E) more σ H s):Inv X pins σ H s:=
 ⟨⟨I.ok.mod,I.ok.kind,I.ok.glob,I.ok.blt,I.ok.above,I.ok.inj,I.ok.has,I.ok.cab,I.ok.hd,I.ok.frames,I.ok.stk,I.ok.exf,I.ok.bs,I.ok.bsz,I.ok.noex,I.ok.exfs,I.ok.funs,I.ok.frf⟩,I.os,I.bare,I.base,I.loc,I.cell,I.free,I.freeC,λp hp=>I.pin p (A0T _ hp),I.hok,I.len⟩
theorem Inv.hnd (I:Inv X pins σ H s)(a:Addr)(E:Value->Shared->Prop):Inv (X.hnd a E) pins σ H s:=
 ⟨⟨I.ok.mod,I.ok.kind,I.ok.glob,I.ok.blt,I.ok.above,I.ok.inj,I.ok.has,I.ok.cab,λz=>Bool.noConfusion z,I.ok.frames,I.ok.stk,I.ok.exf,I.ok.bs,I.ok.bsz,I.ok.noex,I.ok.exfs,I.ok.funs,I.ok.frf⟩,I.os,I.bare,I.base,I.loc,I.cell,I.free,I.freeC,I.pin,I.hok,I.len⟩
theorem Inv.unhnd {a:Addr}{E:Value->Shared->Prop}(hd:X.calm=true->X.A.handled=none)(I:Inv (X.hnd a E) pins σ H s):Inv X pins σ H s:=
 ⟨⟨I.ok.mod,I.ok.kind,I.ok.glob,I.ok.blt,I.ok.above,I.ok.inj,I.ok.has,I.ok.cab,hd,I.ok.frames,I.ok.stk,I.ok.exf,I.ok.bs,I.ok.bsz,I.ok.noex,I.ok.exfs,I.ok.funs,I.ok.frf⟩,I.os,I.bare,I.base,I.loc,I.cell,I.free,I.freeC,I.pin,I.hok,I.len⟩
end
section
variable {M:Model}{A:Around}{E:Value->Shared->Prop}{s:Shared}{K:PySem.W.Frag}{C B a:Addr}{oe:Obj}{Q:Bool->Shared->Prop}
theorem ad6 (X:K.In s.heap)(c:XC K C)(b:XC K B)(hm:PySem.W.mroIn K C (.ref B)=some true)(he:s.heap.get? a=some oe)(hc:oe.cls = .ref C)(hq:Q true s):wpAny M A (excMatches (.ref a) (.ref B)) Q E s:=by
 obtain⟨nm,qn,N,bs,bm,sn,sub,ab,col,dd,k0,k1,k2,k3,k5,hl,htl⟩:=Ks b.ex
 have hB:=X _ _ hl
 have hcB:(Value.ref B :: bm).contains (.type "BaseException")=true:=by rw[A1J,ai0 (A2G X htl),A3Q]
 have f:=tc_notTuple
 have l1:PySem.W.Looks M s.heap (isSubtype (.ref C) (.ref B)) true:=A4O X hm
 obtain⟨h,g,d,t,os⟩:=s
 unfold excMatches
 repeat (first | (with_reducible refine A24 he ?_;rw[hc]) | (with_reducible refine A24 hB ?_) | (with_reducible refine A4N hB ?_;rw[hcB]) | (with_reducible refine l1.at ?_) | wp_step)
 exact hq
end
def tryE (G:Addr->Hp->Prop):XK:=λv _ H'=>∃ a,v = .ref a/\G a H'
def sTry (K:PySem.W.Frag)(len i:Nat)(B:Addr)(G:Addr->Hp->Prop)(tb th:TS):TS:=λD σ H=>tb D σ H/\∀(a:Addr) (H':Hp) (σ':St),σ'.length=len->G a H' ->
 (∃ C od,H' a=some (exG false a C od)/\XC K C/\PySem.W.mroIn K C (.ref B)=some true) /\
  th { nx:=fun σ2 H2=>D.nx (σ2.set i none) H2,rt:=D.rt,bk:=fun σ2 H2=>D.bk (σ2.set i none) H2,ct:=fun σ2 H2=>D.ct (σ2.set i none) H2 } (σ'.set i (some (.ref a))) H'
section
variable {X:Cx}{pins:List (Addr×Obj)}
theorem SP.untri {E:Value->Shared->Prop}{D:Ends}{f:Flow}{s':Shared}(h:SP (X.tri pins E) [] D f s'):SP X pins D f s':=by
 cases f with
 | next=>obtain⟨σ',H',I,q⟩:=h;exact⟨σ',H',I.untri,q⟩
 | brk=>obtain⟨σ',H',I,q⟩:=h;exact⟨σ',H',I.untri,q⟩
 | cont=>obtain⟨σ',H',I,q⟩:=h;exact⟨σ',H',I.untri,q⟩
 | ret u=>obtain⟨v,σ',H',I,r,q⟩:=h;exact⟨v,σ',H',I.untri,r,q⟩
theorem am3 {ts:Array Value}(h:ts[3]? = some .none):ts.setIfInBounds 3 .none=ts:=by
 obtain⟨h1,h2⟩:=A1U.mp h
 refine Array.ext nofun λj j1 j2=>?_
 rw[Array.getElem_setIfInBounds]
 split
 . rename_i e;subst e;exact h2.symm
 rfl
theorem aC5 {body suite:List Stmt}{b0:Stmt}{tb th:TS}{n bx:Str}{i:Nat}{B:Addr}{p1 p2 pos:Pos}(G:Addr->Hp->Prop)(hN:X.N.Nodup)(hi:X.N[i]? = some n)(hk:X.env.scope.names.lookup n=some .local)(hg:Gl X bx)(hm:X.mg bx=some (.ref B))(hB:XC X.K B)
  (hst:X.stack=X.env :: X.outer) (hf:X.env.frame=some X.env.locals) (hex:X.ex=[])
  (hb:∀ ps xe,He (CX1 X.prog X.w) (X.tri ps xe) (tryE G)->PSs (X.tri ps xe) body tb) (hs:∀ a xe,PSs (X.hnd a xe) (b0 :: suite) th) (hd:(bx==("__debug__":Str))=false:=by decide) :
  PS X (.Try body [.ExceptHandler (some (.Name bx p1)) (some n) (b0 :: suite) p2] [] [] pos) (sTry X.K X.N.length i B G tb th):=by
 intro pins s σ H D I h
 refine wpAny_Try_except ?_
 refine A1O (hb pins _ ?_ [] s σ H D (I.tri _) h.1) (λf s1 hs1=>?_) λe s1 he=>he
 . intro pins2 σ2 H2 s2 e s3 I2 hq
   obtain⟨a,C',od',H3,rfl,os,bare,un,ok,ha',hn,⟨oe,vs,T,oT,ts,t1,t2,t3,t4,t5,t6,t7,t8,t9⟩,a',ea,q⟩:=hq
   cases ea
   have J2:Inv X pins σ2 H2 s2:=I2.untri
   obtain⟨⟨C,od,ha,hc,hmro⟩,q3⟩:=h.2 a H3 σ2 (by rw[J2.len]) q
   have un':Un (frs X.stack) [] H2 H3 s2.heap s3.heap:=un
   have fun3:s3.heap.FunFrames X.base (X.env :: X.outer):=by
    have:=Yk (h':=s3.heap) J2.stack λb hb o ho=>un'.any ho (J2.stkFree b hb) nofun
    rwa[hst] at this
   have fr3:∀ b∈frs X.stack,H3 b=none:=λb hb=>by
    obtain⟨_,o,ho,_⟩:=J2.stack.mem hb
    exact un'.free b o ho (J2.stkFree b hb) nofun
   refine Wf (base:=X.base) (L:=X.env.locals) (by have:=J2.ok.frames;rwa[hst] at this) fun3 hf t1 t2 t3 t4 t5 t6 t7 λh4 l=>?_
   rw[<- hst] at l
   have ok4:HOk X.prog X.w H3 h4:=by
    have:=l.hok ok t1 ha fr3 (λb hb=>by simp at hb;subst hb;exact t8)
    rwa[W2 ha] at this
   have un4:Un (frs X.stack) [] H2 H3 s2.heap h4:=by
    have na:∀ b o,s2.heap.get? b=some o->b≠a:=λb o z e=>by rw[e,hn] at z;cases z
    have nT:∀ b o,s2.heap.get? b=some o->b∉[T]:=λb o z e=>by simp at e;rw[e,t9] at z;cases z
    refine⟨λb o z nz hb hx=>l.keep b o hb (na b o z) (nT b o z) (un'.keep b o z nz hb hx),λb o z nz hb hx=>?_,un'.free,λb o z hx=>?_,un'.tups,un'.frzs,un'.tbls⟩
    . obtain⟨sl,z1⟩:=un'.slot b o z nz hb hx
      obtain⟨sl2,z2⟩:=l.slot b _ hb z1
      exact⟨sl2,z2⟩
    obtain⟨o1,z1⟩:=un'.there b o z hx
    exact l.there b o1 z1
   have I4:Inv X pins σ2 H3 { s3 with heap:=h4 }:=J2.call' (s':={ s3 with heap:=h4 }) (ch:=[]) os un4 ok4 bare (λb z=>absurd z nofun)
   obtain⟨us,sl4,he4,_⟩:=exG_ok.mp (ok4 a _ ha)
   obtain⟨oe',vs',T',oT',ts',q1,q2,q3',q4,q5,q6,q7,q8,q9,q10,q11⟩:=l.tr
   have hd4:X.calm=true->X.A.handled=none:=I.ok.hd
   refine wpAny_handleBy_cons (codeAny_handlers_test ?_) (by intro q;cases q)
   refine K4 (X:=X.hnd a λ_ _=>False) (I4.hnd a _) hg hm ?_ hd
   refine ad6 (s:={ s3 with heap:=h4 }) I4.kIn hc hB hmro he4 rfl ?_
   refine codeAny_handlers_suite_as ?_
   have hz:3<ts'.size:=(A1U.mp q11).1
   refine wpAny_setFlight_none q1 q5 q6 q9 q10 hz ?_
   have same:∀ b u,h4.get? b=some u->(h4.update T' (Obj.mapFields (·.setIfInBounds 3 .none))).get? b=some u:=λb u z=>by
    by_cases e:b=T'
    . subst e
      rw[q9] at z;cases z
      rw[A1X _ q9 (A2J (A32 q10 _))]
      obtain⟨c1,d1,dt1,s1'⟩:=oT'
      dsimp only at q10
      subst q10
      refine congrArg some ?_
      show Obj.mk c1 d1 (Data.fields (ts'.setIfInBounds 3 .none)) s1'=_
      rw[am3 q11]
    rw[A1E _ _ (Ne.symm e)];exact z
   have I5:Inv X pins σ2 H3 { s3 with heap:=h4.update T' (Obj.mapFields (·.setIfInBounds 3 .none)) }:=I4.kept (t':=s3.toks) same
   refine Ly (X:=X) (v:=.ref a) I5 hN hi (.inl hk) rfl (λs6 I6=>?_) (.inr hk)
   refine thn (hs a _ pins s6 _ H3 _ (I6.hnd a _) q3) λf s7 h7=>?_
   cases f with
   | next=>obtain⟨σ7,H7,I7,q7'⟩:=h7;exact R8 (I7.unhnd hd4) hN hi hk λs8 I8=>⟨_,_,I8,q7'⟩
   | brk=>obtain⟨σ7,H7,I7,q7'⟩:=h7;exact R8 (I7.unhnd hd4) hN hi hk λs8 I8=>⟨_,_,I8,q7'⟩
   | cont=>obtain⟨σ7,H7,I7,q7'⟩:=h7;exact R8 (I7.unhnd hd4) hN hi hk λs8 I8=>⟨_,_,I8,q7'⟩
   | ret u=>obtain⟨v,σ7,H7,I7,r7,q7'⟩:=h7;exact R8 (I7.unhnd hd4) hN hi hk λs8 I8=>⟨v,_,_,I8,r7,q7'⟩
 have hs1:=hs1.untri
 cases f with
 | next=>exact A06 hs1
 | brk=>exact hs1
 | cont=>exact hs1
 | ret u=>exact hs1
end
def av9 (P:Program)(w:World)(K:PySem.W.Frag)(mg:Str->Option Value)(base:Heap)(k:Nat)(x:Str)(ps:List Str)(sp:Sp):Prop:=
 ∃ f fd,FnOk P w K mg base (CX1 P w) k f fd ps sp/\mg x=some (.ref f)/\PySem.W.keepIn K (.ref f)=true/\Binds K fd ps []
section
variable {X:Cx}{k:Nat}{x:Str}{ps:List Str}{sp:Sp}{e:Expr}{es:List Expr}{t:TA}{p pos:Pos}{E:XK}
theorem Y4 (F:av9 X.prog X.w X.K X.mg X.base k x ps sp)(hr:Room k X.A)(hg:Gl X x)(hx:He (CX1 X.prog X.w) X E)(ha:PA X (e :: es) t)(hdb:(x==("__debug__":Str))=false:=by decide)
  (he:starEach (e :: es) X.env=(false,eval e X.env) :: starEach es X.env:=by ac_nf) (hpl:(backTo pos (starEach es X.env)).any (·.1)=false:=by ac_nf):PE X (.Call (.Name x p) (e :: es) [] pos) (Xx sp [] E t):=by
 obtain⟨f,fd,h1,h2,h3,h4⟩:=F
 exact Zh h1 hr hg h2 h3 h4 .nil hx ha hdb he hpl
end
section
variable {P:Program}{w:World}{K:PySem.W.Frag}{mg:Str->Option Value}{base:Heap}
theorem Fun.ok1 {x qual:Str}{st:Stmt}{f:Addr}{fd:FuncData}{N ps:List Str}{k:Nat}{sp:Sp}(F:Fun K x qual st f fd)(S:Aj N ps (A6 st))(len:∀ vs H Q E,sp vs H Q E->vs.length=ps.length)
  (hbody:∀(cdv:Value) (A:Around) (outer:List Env) (s:Shared) (H:Hp) (vs:List V) (Q:VK) (E:XK),Room k (A.deeper (envOfC qual (A6 st) s.heap.objs.size f cdv))->sp vs H Q E ->
   ∃ t,PSs (Vl (CX1 P w) P w K mg base N qual (A6 st) f cdv A outer s H E) (Ac st) t/\t { nx:=λ_ H'=>Q .non H',rt:=Q } (start N vs) H):FnOk P w K mg base (CX1 P w) (k+1) f fd ps sp:=by
 obtain⟨oc,od,kV,doc,pm,an,cdv,ct,osl,rfl,lk,hcd⟩:=F.ex
 exact ay8 lk hcd S len λA outer s H vs Q E hr hsp=>hbody cdv A outer s H vs Q E hr hsp
end
section
variable {K:PySem.W.Frag}{σ:St}{H H0:Hp}{D:Ends}{t:TE}{C a:Addr}{fs:List (Str×V)}{E:XK}
theorem i_sRaise (k:t σ H λx H1=>Yq K H0 E x H1):af8 K H0 E t D σ H:=k
theorem Kz (h:ExA H a C fs)(c:XC K C)(h0:H0 a=none)(k:∀ H2,(∀ b o,b≠a->H b=some o->H2 b=some o)->ExB false H2 a C fs->E (.ref a) none H2):Yq K H0 E (.ref a) H:=by
 have kp:∀ od b o,b≠a->H b=some o->upd H a (exG false a C od) b=some o:=λod b o hb q=>by rw[Au hb];exact q
 rcases h with ⟨e1,h⟩ | ⟨dx,ne,h,g⟩
 . exact⟨a,C,none,rfl,h,c,h0,k _ (kp _) (.inl ⟨e1,Ad⟩)⟩
 exact⟨a,C,some dx,rfl,h,c,h0,k _ (kp _) (.inr ⟨dx,ne,Ad,kp _ _ _ ne g⟩)⟩
end
section
open Lean
def mWay (s:String):MacroM (TSyntax `tactic):=
 if s == "as" then `(tactic| assumption) else if s == "ar" then `(tactic| with_reducible assumption) else `(tactic| walk_at $(quote s))
def Yw (ts:Array (TSyntax `tactic)):MacroM (TSyntax `tactic):=do
 let ts <- ts.mapM λt=>`(Lean.Parser.Tactic.tacticSeq| $t:tactic)
 `(tactic| first $[| $ts]*)
def mId (s:String):Ident:=mkIdent ((s.splitOn ".").foldl Name.mkStr Name.anonymous)
def mIs (s:String):MacroM Ident:=do return mkIdent (<- Macro.addMacroScope (.mkSimple s))
def Zw:List String->TSyntax `tactic->MacroM (TSyntax `tactic)
 | [],t=>pure t
 | s :: r,t=>do
   match s.splitOn "=" with
   | [x,y]=>let w <- mWay y;let i <- mIs x;Zw r (<- `(tactic| ($t:tactic;(case $i:ident=>$w:tactic))))
   | _=>Zw r t
def mRow (s:String):MacroM (TSyntax `tactic):=do
 match s.splitOn ": " with
 | [h,c]=>
   match h.splitOn " " with
   | f :: as=>
     let xs <- as.toArray.mapM λa=>do if a == "_" then `(?_) else `(?$(<- mIs a))
     let u:=Syntax.mkApp (mId f) xs
     let t <- if as.contains "_" then `(tactic| with_reducible refine' $u) else `(tactic| refine' $u)
     Zw (c.splitOn " ") t
   | _=>Macro.throwUnsupported
 | _=>do
   if s == "as" then `(tactic| assumption)
   else if s == "no" then `(tactic| fail "no")
   else `(tactic| exact $(mId s))
def mRows (s:String):MacroM (TSyntax `tactic):=do Yw (<- (s.splitOn " | ").toArray.mapM mRow)
def mAlts (s:String):MacroM (TSyntax `tactic):=do
 let a <- Yw (<- (s.splitOn " ").toArray.mapM λn=>`(tactic| refine $(mId n) ?_))
 `(tactic| with_reducible $a:tactic)
def mAltG (s:String):MacroM (TSyntax `tactic):=do
 let a <- Yw (<- (s.splitOn " ").toArray.mapM λn=>`(tactic| refine $(mId n) λN hN=>?_))
 `(tactic| with_reducible $a:tactic)
end
section
open PySem
theorem same_refl {H:Hp}:Same H H:=Same.refl _
theorem fz_refl {H:Hp}:Fz H H:=Fz.refl _
theorem ne_none2 {H:Hp}{a b:PySem.Addr}{o:HO}(h:H a=some o)(g:H b=none):b≠a:=Ne.symm (ne_of_none h g)
def Cut (N M:St->Hp->Prop):Prop:=∀ σ H,M σ H->N σ H
section
variable {t u:TS}{te td ty tv:TE}{g:TG}{D:Ends}{σ:St}{H:Hp}
theorem aA0 (k:∀ N:St->Hp->Prop,Cut N (u D)->t { D with nx:=N } σ H):aD6 t u D σ H:=k (u D) λ_ _ h=>h
theorem i_seqAG (k:∀ N:St->Hp->Prop,Cut N (u D)->aq8 te g { D with nx:=N } σ H):aD6 (aq8 te g) u D σ H:=k (u D) λ_ _ h=>h
theorem i_nxS {i:Nat}{rt:VK}{bk ct:St->Hp->Prop}(k:D.nx (σ.set i none) H):Ends.nx { nx:=fun σ2 H2=>D.nx (σ2.set i none) H2,rt:=rt,bk:=bk,ct:=ct } σ H:=k
theorem i_cutN {N M:St->Hp->Prop}(h:Cut N M)(k:M σ H):N σ H:=h _ _ k
end
theorem ar5 {α:Type}{P:List α->Prop}{us:List α}(hl:us.length=0)(h:P []):P us:=by
 rw[A1I.mp hl];exact h
theorem ah9 {α:Type}{P:List α->Prop}{us:List α}(hl:us.length=1)(h:∀ a0:α,P [a0]):P us:=by
 cases us with
 | nil=>cases hl
 | cons a r=>exact ar5 (P:=λr=>P (a :: r)) (Nat.succ.inj hl) (h a)
theorem ai4 {α:Type}{P:List α->Prop}{us:List α}(hl:us.length=2)(h:∀ a0 a1:α,P [a0,a1]):P us:=by
 cases us with
 | nil=>cases hl
 | cons a r=>exact ah9 (P:=λr=>P (a :: r)) (Nat.succ.inj hl) (h a)
theorem ai5 {α:Type}{P:List α->Prop}{us:List α}(hl:us.length=3)(h:∀ a0 a1 a2:α,P [a0,a1,a2]):P us:=by
 cases us with
 | nil=>cases hl
 | cons a r=>exact ai4 (P:=λr=>P (a :: r)) (Nat.succ.inj hl) (h a)
theorem av7 {α:Type}{P:List α->Prop}{us:List α}(hl:us.length=4)(h:∀ a0 a1 a2 a3:α,P [a0,a1,a2,a3]):P us:=by
 cases us with
 | nil=>cases hl
 | cons a r=>exact ai5 (P:=λr=>P (a :: r)) (Nat.succ.inj hl) (h a)
end
section
variable {K:PySem.W.Frag}{x qual:Str}{st:Stmt}{f:Addr}{fd:FuncData}
theorem Fd {p0:Str}(F:Fun K x qual st f fd)(h:∀(kV doc pm:Value) (an:Option Addr) (cdv ct:Value) (u0:Value),bindArgs (PySem.W.fnOf x qual (Ae st) (Ac st) (A6 st) .none kV doc pm an cdv ct) ⟨[u0],[]⟩=pure (([p0]:List Str).zip [u0])):Binds K fd [p0] []:=
 F.binds λkV doc pm an cdv ct us hl=>ah9 (P:=λus=>bindArgs (PySem.W.fnOf x qual (Ae st) (Ac st) (A6 st) .none kV doc pm an cdv ct) ⟨us,[]⟩=pure (([p0]:List Str).zip us)) hl (h kV doc pm an cdv ct)
theorem Eb {p0 p1:Str}(F:Fun K x qual st f fd)(h:∀(kV doc pm:Value) (an:Option Addr) (cdv ct:Value) (u0 u1:Value),bindArgs (PySem.W.fnOf x qual (Ae st) (Ac st) (A6 st) .none kV doc pm an cdv ct) ⟨[u0,u1],[]⟩=pure (([p0,p1]:List Str).zip [u0,u1])):Binds K fd [p0,p1] []:=
 F.binds λkV doc pm an cdv ct us hl=>ai4 (P:=λus=>bindArgs (PySem.W.fnOf x qual (Ae st) (Ac st) (A6 st) .none kV doc pm an cdv ct) ⟨us,[]⟩=pure (([p0,p1]:List Str).zip us)) hl (h kV doc pm an cdv ct)
theorem Kj {p0 p1 p2:Str}(F:Fun K x qual st f fd)(h:∀(kV doc pm:Value) (an:Option Addr) (cdv ct:Value) (u0 u1 u2:Value),bindArgs (PySem.W.fnOf x qual (Ae st) (Ac st) (A6 st) .none kV doc pm an cdv ct) ⟨[u0,u1,u2],[]⟩=pure (([p0,p1,p2]:List Str).zip [u0,u1,u2])):Binds K fd [p0,p1,p2] []:=
 F.binds λkV doc pm an cdv ct us hl=>ai5 (P:=λus=>bindArgs (PySem.W.fnOf x qual (Ae st) (Ac st) (A6 st) .none kV doc pm an cdv ct) ⟨us,[]⟩=pure (([p0,p1,p2]:List Str).zip us)) hl (h kV doc pm an cdv ct)
theorem ag4 {p0 p1 p2 p3:Str}(F:Fun K x qual st f fd)(h:∀(kV doc pm:Value) (an:Option Addr) (cdv ct:Value) (u0 u1 u2 u3:Value),bindArgs (PySem.W.fnOf x qual (Ae st) (Ac st) (A6 st) .none kV doc pm an cdv ct) ⟨[u0,u1,u2,u3],[]⟩=pure (([p0,p1,p2,p3]:List Str).zip [u0,u1,u2,u3])):Binds K fd [p0,p1,p2,p3] []:=
 F.binds λkV doc pm an cdv ct us hl=>av7 (P:=λus=>bindArgs (PySem.W.fnOf x qual (Ae st) (Ac st) (A6 st) .none kV doc pm an cdv ct) ⟨us,[]⟩=pure (([p0,p1,p2,p3]:List Str).zip us)) hl (h kV doc pm an cdv ct)
end
section
open PySem.SeqAt PySem.MeetsSeq
variable {A:Around}{s:Shared}
end
section
variable {prog:Program}{w:World}{A:Around}{E:Value->Shared->Prop}{s:Shared}
set_option maxRecDepth 100000 in
end
section
variable {X:Cx}{pos p2:Pos}
theorem av6 {to ti:TE}{t:aC9}{v:V}{σ:St}{H:Hp}{Q:St->Hp->Prop}(k:to σ H λo H1=>ti σ H1 λi H2=>t o i v H2 λH3=>Q σ H3):aG7 to ti t v σ H Q:=k
theorem aw0 {p:Addr}{xs:List V}{j:Nat}{v:V}{H:Hp}{Q:Hp->Prop}(hp:H p=some (.lst xs))(hj:j<xs.length)(hz:xs.length<=1000000)(k:∀ H',ExtBut p H H'->H' p=some (.lst (xs.set j v))->Q H'):at0 (.ref p) (.int (j:Int)) v H Q:=
 ⟨p,xs,j,j,rfl,rfl,hp,by
  unfold ixN
  simp
  omega,k _ ExtBut.upd Ad⟩
end
section
variable {P:Program}{w:World}{A:Around}{E:Value->Shared->Prop}{z:Shared}
end
section
variable {X:Cx}{K:PySem.W.Frag}
end
section
variable {K:PySem.W.Frag}{H:Hp}{Q:VK}
end
section
variable {X:Cx}{pins:List (Addr×Obj)}{σ:St}{H:Hp}{s:Shared}
end
def ay6 (K:PySem.W.Frag):R2:=λx y H Q=>∃ a b xs,x = .ref a/\y = .ref b/\SqL K H a xs/\SqL K H b []/\Q (.bl xs.isEmpty) H
theorem ai8 {X:Cx}{K:PySem.W.Frag}(hq:QA X.A)(hK:X.K=K:=by ac_nf):OpR X (compareOp .Eq) (ay6 K):=by
 subst hK
 intro pins s σ H x y v u Q I rx ry h
 obtain⟨a,b,xs,rfl,rfl,ha,hb,q⟩:=h
 cases rx
 cases ry
 obtain⟨its,rv,la,_⟩:=I.list ha
 obtain⟨its2,rv2,lb,_⟩:=I.list hb
 cases rv2
 have hu:X.A.units<cLine:=by have:=hq.un;omega
 have la':s.heap.IsList a its.toArray:=let ⟨o,n,e1,e2,e3,e4⟩:=la;⟨o,e1,e2,_,e4⟩
 have lb':s.heap.IsList b ([]:List Value).toArray:=let ⟨o,n,e1,e2,e3,e4⟩:=lb;⟨o,e1,e2,_,e4⟩
 cases xs with
 | nil=>
   cases rv
   exact SeqAt.eq_listAt (e:=λ_=>true) la' lb' rfl hu (λj h1=>absurd h1 nofun) ⟨.bl _,H,I,rfl,q⟩
 | cons x r=>
   cases rv with
   | cons r1 r2=>exact SeqAt.eq_list_lengthsAt la' lb' nofun hu ⟨.bl _,H,I,rfl,q⟩
theorem W0 {K:PySem.W.Frag}{H:Hp}{Q:VK}{a b:Addr}{xs:List V}(h:SqL K H a xs)(h':SqL K H b [])(k:Q (.bl xs.isEmpty) H):ay6 K (.ref a) (.ref b) H Q:=⟨a,b,xs,rfl,rfl,h,h',k⟩
section
variable {X:Cx}{K:PySem.W.Frag}
end
section
variable {X:Cx}{K:PySem.W.Frag}
def W3 (K:PySem.W.Frag):List V->Hp->VK->Prop:=λxs H Q=>∃ x d,xs=[x]/\Is K H d x/\d.showable=true/\d.shown.length<=sizeLine/\d.depth<=100/\Q (.str d.shown) H
theorem Xd (hq:QA X.A):CallR X (.builtin "repr") (W3 X.K):=by
 intro pins s σ H xs us Q I rv h
 obtain⟨x,d,rfl,i,hs,hf,hd,q⟩:=h
 cases d with
 | none=>
   simp only[Is] at i
   subst i
   exact Qe pins s σ H _ us Q I rv (.inr ⟨rfl,q⟩)
 | bool b=>
   simp only[Is] at i
   subst i
   refine Qe pins s σ H _ us Q I rv (.inl ⟨b,rfl,?_⟩)
   cases b<;>exact q
 | int n=>
   simp only[Is] at i
   subst i
   exact X9 pins s σ H _ us Q I rv ⟨n,rfl,of_decide_eq_true (by simpa only[PyData.showable] using hs),q⟩
 | str z=>
   simp only[Is] at i
   subst i
   obtain⟨u,rfl,ru⟩:=rv.one
   obtain⟨t,rfl⟩:=ru
   exact PySem.P.repr_of_str ⟨.str _,H,I.tok _,⟨_,rfl⟩,q⟩ hf
 | list ds=>exact Py hq pins s σ H _ us Q I rv ⟨x,_,rfl,i,⟨rfl,hs,hf,hd⟩,q⟩
 | tuple ds=>exact Py hq pins s σ H _ us Q I rv ⟨x,_,rfl,i,⟨rfl,hs,hf,hd⟩,q⟩
 | dict kvs=>simp only[Is] at i
theorem Ca (hq:QA X.A)(hK:X.K=K:=by ac_nf):CallR X (.builtin "repr") (W3 K):=hK ▸ Xd hq
theorem a63 {H:Hp}{Q:VK}{d:PyData}{x:V}(h:Is K H d x)(h1:d.showable=true)(h2:d.shown.length<=sizeLine)(h3:d.depth<=100)(k:Q (.str d.shown) H):W3 K [x] H Q:=⟨x,d,rfl,h,h1,h2,h3,k⟩
end
section
variable {prog:Program}{w:World}{A:Around}{E:Value->Shared->Prop}{s:Shared}
end
section
variable {P:Program}{w:World}{A:Around}{R:Result->Shared->Prop}{it:Addr}{fp wr:List Addr}{G:Array GenState->Array GenState->Prop}{n:Nat}{PV:Nat->Value->Prop}{St:Nat->Shared->Prop}
end
section
variable {prog:Program}{w:World}{A:Around}{E:Value->Shared->Prop}{s:Shared}
set_option maxHeartbeats 3200000 in
end
section
variable {prog:Program}{w:World}{A:Around}{E:Value->Shared->Prop}{s:Shared}
end
section
variable {prog:Program}{w:World}{A:Around}{E:Value->Shared->Prop}{s:Shared}
end
section
variable {prog:Program}{w:World}{A:Around}{E:Value->Shared->Prop}{s:Shared}
end
section
variable {prog:Program}{w:World}{A:Around}{E:Value->Shared->Prop}{s:Shared}
end
section
variable {X:Cx}{K:PySem.W.Frag}
end
end L2
namespace L2
open PySem PySem.Spec PyProof.Rows
open Builtin
section
variable {X:Cx}{K:PySem.W.Frag}
end
end L2
namespace L2
open PySem PySem.Spec PyProof.Rows
section
variable {P:Program}{w:World}{K:PySem.W.Frag}{mg:Str->Option Value}{base:Heap}{k:Nat}{f:Addr}{fd:FuncData}{ps:List Str}{sp sp':Sp}
end
section
variable {P:Program}{w:World}{A:Around}{E:Value->Shared->Prop}{z:Shared}
end
section
variable {X:Cx}{K:PySem.W.Frag}
end
section
variable {K:PySem.W.Frag}{σ:St}{H:Hp}{Q:VK}
end
section
variable {X:Cx}{K:PySem.W.Frag}{H:Hp}{Q:VK}
end
section
variable {X:Cx}{K:PySem.W.Frag}
end
section
variable {α:Type}[DecidableEq α]
end
section
variable {α:Type}[DecidableEq α]
end
section
variable {α:Type}[DecidableEq α]
end
section
variable {X:Cx}{pins:List (Addr×Obj)}{σ:List (Option V)}{H:Hp}{s:Shared}{h':Heap}
variable {K:PySem.W.Frag}
end
section
variable {α:Type}[DecidableEq α]
end
section
variable {α:Type}[DecidableEq α]
end
section
variable {α:Type}[DecidableEq α]
variable {β:Type}[DecidableEq β]
end
section
variable {X:Cx}{k:Nat}{x:Str}{ps:List Str}{sp:Sp}{e:Expr}{es:List Expr}{t:TA}{p pos:Pos}{E:St->XK}
end
section
variable {X:Cx}{pins:List (Addr×Obj)}
end
section
variable {α:Type}[DecidableEq α]
end
section
variable {ns ns':List Str}{ps ps':List (Str×Str)}
variable {qs:List (Str×Str)}
end
section
variable {M:Model}{A:Around}{E:Value->Shared->Prop}{s:Shared}{base:Heap}{env:Env}{outer:List Env}{L a:Addr}{oe:Obj}{vs:Array Value}{Q:Unit->Shared->Prop}
end
section
variable {P:Program}{w:World}{fs:List Addr}{a C:Addr}{od:Option Addr}{oe:Obj}{old:List Addr}{h h':Heap}{H:Hp}{n:Bool}
end
section
variable {P:Program}{w:World}{K:PySem.W.Frag}{mg:Str->Option Value}{base:Heap}{N:List Str}{qual:Str}{scope:Scope}{f:Addr}{cd:Value}{A:Around}{outer:List Env}{s₀:Shared}{H₀:Hp}{E:XK}
end
section
variable {P:Program}{w:World}{K:PySem.W.Frag}{mg:Str->Option Value}{base:Heap}{N:List Str}{qual:Str}{scope:Scope}{f:Addr}{cd:Value}{A:Around}{outer:List Env}{s₀:Shared}{H₀:Hp}{E:XK}
end
section
variable {X:Cx}{scope:Scope}{xs fr:List Str}{pins:List (Addr×Obj)}{σ:St}{H:Hp}{s:Shared}{js:List Nat}{fp:List Addr}
end
def T7 (P:Program)(w:World)(K:PySem.W.Frag)(mg:Str->Option Value)(base:Heap)(k:Nat)(C:Addr)(m:Str)(ps:List Str)(sp:Sp):Prop:=
 ∃ f fd,FnOk P w K mg base (CX1 P w) k f fd ps sp/\aq7 K C m f/\Binds K fd ps []
section
variable {X:Cx}{k:Nat}{C:Addr}{m:Str}{ps:List Str}{sp:Sp}{e o:Expr}{es:List Expr}{ta:TE}{t:TA}{p pos apos:Pos}{E:XK}
theorem Qh {pl:Sem Bool}(he:PE X o ta)(c:Cls X.K C)(F:T7 X.prog X.w X.K X.mg X.base k C m ps sp)(hr:Room k X.A)(hx:He (CX1 X.prog X.w) X E)(ha:PA X (e :: es) t)
  (hst:starEach (e :: es) X.env=(false,eval e X.env) :: starEach es X.env:=by ac_nf) (hpl:(backTo pos (starEach es X.env)).any (·.1)=false:=by ac_nf)
  (ht:eval (.Call (.Attribute o m apos) (e :: es) [] pos) X.env=(do
   let ov <- eval o X.env
   standAt apos.atName
   let (f,first) <- holding [ov] (getMethod ov m pl)
   callWith pos f first (backTo pos (starEach (e :: es) X.env)) (backToKw pos (keywordEach [] X.env))):=by ac_nf) :
  PE X (.Call (.Attribute o m apos) (e :: es) [] pos) (X8 C m sp [] E ta t):=by
 obtain⟨f,fd,h1,h2,h3⟩:=F
 exact Yo (pl:=pl) he c h2 h1 hr h3 .nil hx ha hst hpl ht
theorem Xu {pl:Sem Bool}(he:PE X o ta)(c:Cls X.K C)(F:T7 X.prog X.w X.K X.mg X.base k C m ps sp)(hr:Room k X.A)(hx:He (CX1 X.prog X.w) X E)
  (ht:eval (.Call (.Attribute o m apos) [] [] pos) X.env=(do
   let ov <- eval o X.env
   standAt apos.atName
   let (f,first) <- holding [ov] (getMethod ov m pl)
   callWith pos f first (backTo pos (starEach [] X.env)) (backToKw pos (keywordEach [] X.env))):=by ac_nf) :
  PE X (.Call (.Attribute o m apos) [] [] pos) (X8 C m sp [] E ta at4):=by
 obtain⟨f,fd,h1,h2,h3⟩:=F
 exact Vg (pl:=pl) he c h2 h1 hr h3 .nil hx ht
theorem Ln {pl:Sem Bool}(he:PE X o ta)(c:Cls X.K C)(F:Mtd X.prog X.w X.K X.mg X.base k C m ps sp)(hr:Room k X.A)
  (ht:eval (.Call (.Attribute o m apos) [] [] pos) X.env=(do
   let ov <- eval o X.env
   standAt apos.atName
   let (f,first) <- holding [ov] (getMethod ov m pl)
   callWith pos f first (backTo pos (starEach [] X.env)) (backToKw pos (keywordEach [] X.env))):=by ac_nf) :
  PE X (.Call (.Attribute o m apos) [] [] pos) (X8 C m sp [] E0 ta at4):=by
 obtain⟨f,fd,h1,h2,h3⟩:=F
 exact Vg (pl:=pl) he c h2 h1 hr h3 .nil a86 ht
end
section
variable {σ:St}{H:Hp}{Q:VK}{C:Addr}{m:Str}{sp:Sp}{ta:TE}{t:TA}{E:XK}
def aG6 (m:Str)(C:Addr)(sp:Sp)(E:XK)(t:TA)(σ:St):V->Hp->VK->Prop:=λx H Q=>∃ a dx fs,x = .ref a/\H a=some (.ins C dx fs)/\fs.lookup m=none/\t σ H λvs H2=>sp (x :: (vs++[])) H2 Q E
theorem i_tMeth (k:ta σ H λx H1=>aG6 m C sp E t σ x H1 Q):X8 C m sp [] E ta t σ H Q:=k
theorem Jm {a dx:Addr} {fs:List (Str×V)} (h:H a=some (.ins C dx fs)) (l:fs.lookup m=none) (k:t σ H λvs H2=>sp (.ref a :: (vs++[])) H2 Q E):aG6 m C sp E t σ (.ref a) H Q:=⟨a,dx,fs,rfl,h,l,k⟩
end
theorem Qz:∀ {cs:List String} {us:List Value},Vals (cs.map V.ty) us->us=cs.map Value.type
 | [], us,r=>by cases us with | nil=>rfl | cons _ _=>cases r
 | c :: cs,us,r=>by
   cases us with
   | nil=>cases r
   | cons u us=>
     cases r with
     | cons r1 r2=>rw[A0X,Qz r2,show u=Value.type c from r1]
def aI6 (K:PySem.W.Frag):List V->Hp->VK->Prop:=λxs H Q=>∃(a:Addr) (ys:List V) (p:Addr) (cs:List String) (b:Bool),xs=[.ref a,.ref p]/\SqT K H a ys/\H p=some (.tup (cs.map V.ty))/\PySem.W.kitAny K (.type "tuple") (cs.map Value.type)=some b/\Q (.bl b) H
theorem call_isU {X:Cx}:CallR X (.builtin "isinstance") (aI6 X.K):=by
 intro pins s σ H xs us Q I r h
 obtain⟨a,ys,p,cs,b,rfl,ty,hp,e,q⟩:=h
 obtain⟨u,w',rfl,r1,r2⟩:=Tn r
 cases r1;cases r2
 obtain⟨_,its,ri,ob,g1,g2,⟨n,g3⟩,g4⟩:=(show ObjOk X.prog X.w H s.heap p (.tup (cs.map V.ty)) from I.hok p _ hp)
 obtain rfl:=Qz ri
 obtain⟨oc,odd,oda,osl⟩:=ob
 dsimp only at g2 g3 g4
 subst g2 g3 g4
 obtain⟨its2,_,pp,_⟩:=I.tuple ty
 obtain⟨o,h1,h2,_⟩:=pp
 exact PySem.W.kia_tup A4R I.kIn ⟨o,h1,h2⟩ g1 e (λz=>nomatch z) λtk=>⟨.bl _,H,I.tok _,rfl,q⟩
structure RoomH (k:Nat)(A:Around):Prop where
 dp:A.depth+3*k+5<recursionLimit
 un:A.units+16*k+200<cLine
 gd:A.guards=some []
theorem Room.h {k:Nat}{A:Around}(r:Room k A)(x:Option Value):RoomH k (A.mark x):=⟨r.dp,r.un,r.gd⟩
theorem RoomH.deeper {k:Nat}{A:Around}(r:RoomH (k+1) A)(env:Env):RoomH k (A.deeper env):=
 ⟨by have:=r.dp;show A.depth+1+3*k+5<_;omega,by have:=r.un;show A.units+3+16*k+200<_;omega,r.gd⟩
theorem ax1 {A:Around}{k:Nat}(hr:RoomH k A):QA A:=⟨by have:=hr.un;omega,hr.gd⟩
theorem av1 {A:Around}{k:Nat}(hr:RoomH k A):A.units+1<cLine:=by have:=hr.un;omega
structure ac6 (P:Program)(w:World)(K:PySem.W.Frag)(mg:Str->Option Value)(base:Heap)(k:Nat)(f:Addr)(fd:FuncData)(ps:List Str)(sp:Sp):Prop where
 len:∀ vs H Q E,sp vs H Q E->vs.length=ps.length
 run:∀(A:Around) (outer:List Env) (s:Shared) (H:Hp) (args:Args) (us:List Value) (vs:List V) (Q:VK) (E:XK),RoomH k A->Env0 P w K mg base A outer s H->BindsTo s fd args (ps.zip us)->Vals vs us->sp vs H Q E ->
  codeAny (model P w) A (.call (.ref f) args) (CR CX0 outer P w H s Q E) s
abbrev ab9 (P:Program)(w:World)(K:PySem.W.Frag)(mg:Str->Option Value)(base:Heap)(N:List Str)(qual:Str)(scope:Scope)(f:Addr)(cd:Value)(A:Around)(outer:List Env)(s:Shared)(H:Hp)(E:XK):Cx:=
 { Vl CX0 P w K mg base N qual scope f cd A outer s H E with calm:=false }
section
variable {P:Program}{w:World}{K:PySem.W.Frag}{mg:Str->Option Value}{base:Heap}
theorem aA5 {k:Nat}{f:Addr}{name qual:Str}{params:Arguments}{body:List Stmt}{scope:Scope}{dV kV doc pm cdv ct oc:Value}{an od:Option Addr}
  {osl:Array (Option Value)} {N ps:List Str} {sp:Sp} (lk:K.lookup f=some ⟨oc,od,.func (PySem.W.fnOf name qual params body scope dV kV doc pm an cdv ct),osl⟩) (hcd:PySem.W.codeIn K cdv qual=true) (S:Aj N ps scope)
  (len:∀ vs H Q E,sp vs H Q E->vs.length=ps.length)
  (hbody:∀(A:Around) (outer:List Env) (s:Shared) (H:Hp) (vs:List V) (Q:VK) (E:XK),RoomH k (A.deeper (envOfC qual scope s.heap.objs.size f cdv))->sp vs H Q E ->
   ∃ t,PSs (ab9 P w K mg base N qual scope f cdv A outer s H E) body t/\t { nx:=λ_ H'=>Q .non H',rt:=Q } (start N vs) H) :
  ac6 P w K mg base (k+1) f (PySem.W.fnOf name qual params body scope dV kV doc pm an cdv ct) ps sp:=by
 refine⟨len,λA outer s H args us vs Q E hr e0 hb r hsp=>?_⟩
 have hl:=len _ _ _ _ hsp
 have KX:K.In s.heap:=e0.mod.kin.keeps λb o e=>(e0.bs b o e).1
 have lim:s.heap.NoLimit:=e0.mod.nolimit.keeps λb o e=>(e0.bs b o e).1
 have hkind:∀ y∈ps.zip us,scope.names.lookup y.1=some .local\/(scope.names.lookup y.1=some .cell/\((cellsFrom (s.heap.objs.size+1) scope.names []).lookup y.1).isSome=true):=λ⟨n,v⟩ hy=>by
  rcases S.par n (A2Y hy).1 with q | q
  . exact .inl q
  exact .inr ⟨q,A45 _ _ _ (.inl q)⟩
 refine codeAny_call_function (by have:=hr.dp;omega) (KX _ _ lk) rfl S.co S.gen rfl (PySem.W.codeRec_of KX hcd) (hb _ _ _ _ ?_)
 refine wpAny_newFunctionEnv_cells S.kind hkind λenv he s1 x=>?_
 subst he
 refine⟨lim.keeps x.toInCall.keep,codeAny_func ?_⟩
 obtain⟨t,ht,hq⟩:=hbody A outer s H vs Q E (hr.deeper _) hsp
 have I0:Inv (Vl CX0 P w K mg base N qual scope f cdv { A with handled:=none } outer s H E) [] (start N vs) H s1:=Tl S rfl ⟨e0.frames,e0.mod,e0.bs,e0.bsz,e0.funs,e0.frf,e0.hok,e0.bare⟩ hl r x
 have I:Inv (ab9 P w K mg base N qual scope f cdv A outer s H E) [] (start N vs) H s1:=
  ⟨⟨I0.ok.mod,I0.ok.kind,I0.ok.glob,I0.ok.blt,I0.ok.above,I0.ok.inj,I0.ok.has,I0.ok.cab,λz=>Bool.noConfusion z,I0.ok.frames,I0.ok.stk,I0.ok.exf,I0.ok.bs,I0.ok.bsz,I0.ok.noex,I0.ok.exfs,I0.ok.funs,I0.ok.frf⟩,I0.os,I0.bare,I0.base,I0.loc,I0.cell,I0.free,I0.freeC,I0.pin,I0.hok,I0.len⟩
 refine A1O (ht [] s1 (start N vs) H _ I hq) (λfl s' hs=>?_) λe s' hs=>hs
 have fin:∀ {σ':St} {H':Hp} {v:V} {u:Value},Inv (ab9 P w K mg base N qual scope f cdv A outer s H E) [] σ' H' s'->RelV v u->Q v H'->CE outer P w H s Q u s':=
  fun {σ' H' v u} J rv q=>⟨v,H',J.os,J.bare,J.base,J.hok,rv,q⟩
 cases fl with
 | ret u=>
   obtain⟨v,σ',H',J,rv,q⟩:=hs
   exact fin J rv q
 | next=>
   obtain⟨σ',H',J,q⟩:=hs
   exact fin (v:=V.non) (u:=Value.none) J rfl q
 | brk=>
   obtain⟨_,_,_,q⟩:=hs
   exact False.elim q
 | cont=>
   obtain⟨_,_,_,q⟩:=hs
   exact False.elim q
theorem Fun.okH {x qual:Str}{st:Stmt}{f:Addr}{fd:FuncData}{N ps:List Str}{k:Nat}{sp:Sp}(F:Fun K x qual st f fd)(S:Aj N ps (A6 st))(len:∀ vs H Q E,sp vs H Q E->vs.length=ps.length)
  (hbody:∀(cdv:Value) (A:Around) (outer:List Env) (s:Shared) (H:Hp) (vs:List V) (Q:VK) (E:XK),RoomH k (A.deeper (envOfC qual (A6 st) s.heap.objs.size f cdv))->sp vs H Q E ->
   ∃ t,PSs (ab9 P w K mg base N qual (A6 st) f cdv A outer s H E) (Ac st) t/\t { nx:=λ_ H'=>Q .non H',rt:=Q } (start N vs) H):ac6 P w K mg base (k+1) f fd ps sp:=by
 obtain⟨oc,od,kV,doc,pm,an,cdv,ct,osl,rfl,lk,hcd⟩:=F.ex
 exact aA5 lk hcd S len λA outer s H vs Q E hr hsp=>hbody cdv A outer s H vs Q E hr hsp
def aF5 (P:Program)(w:World)(K:PySem.W.Frag)(mg:Str->Option Value)(base:Heap)(k:Nat)(x:Str)(ps:List Str)(sp:Sp):Prop:=
 ∃ f fd,ac6 P w K mg base k f fd ps sp/\mg x=some (.ref f)/\PySem.W.keepIn K (.ref f)=true/\Binds K fd ps []
end
section
variable {X:Cx}{k:Nat}{x:Str}{ps:List Str}{sp:Sp}{e:Expr}{es:List Expr}{t:TA}{p pos:Pos}
theorem au7 (F:aF5 X.prog X.w X.K X.mg X.base k x ps sp)(hr:RoomH k X.A)(hg:Gl X x)(ha:PA X (e :: es) t)(hdb:(x==("__debug__":Str))=false:=by decide)
  (he:starEach (e :: es) X.env=(false,eval e X.env) :: starEach es X.env:=by ac_nf) (hpl:(backTo pos (starEach es X.env)).any (·.1)=false:=by ac_nf):PE X (.Call (.Name x p) (e :: es) [] pos) (Xx sp [] E0 t):=by
 obtain⟨f,fd,G,h2,h3,h4⟩:=F
 intro pins s σ H Q I h
 refine A1H (K4 I hg h2 ?_ hdb)
 refine A2E (h₀:=X.base) I.ok.mod.kin h3 (thn (ha pos pins s σ H _ I h) λus s1 ⟨vs,H1,I1,r,q⟩=>⟨I1.kIn,?_⟩) he hpl
 have q:sp (vs++[]) H1 Q E0:=q
 rw[A2I] at q
 have hl:us.length=ps.length:=by rw[<- r.length];exact G.len _ _ _ _ q
 have hb:=h4 s1 us I1.kIn (by rw[A2I];exact hl)
 rw [A2I] at hb
 refine A3G (A2W (G.run X.A X.stack s1 H1 ⟨us,[]⟩ us vs Q E0 hr I1.env0 hb r q) λr s' hq=>?_)
 cases r with
 | error e=>exact hq.elim
 | ok fl=>
   cases fl with
   | ret u=>exact I1.after hq
   | next=>exact False.elim hq
   | brk=>exact False.elim hq
   | cont=>exact False.elim hq
end
theorem Ll:∀ {ns:List Int} {out:List Value},out.length=ns.length->(∀(i:Nat) v,out[i]? = some v->∃ n t,ns[i]? = some n/\v=Value.int n t)->IntsAre out ns
 | [],[],_,_=>.nil
 | [],_ :: _,h,_=>by simp at h
 | _ :: _,[],h,_=>by simp at h
 | n :: ns,v :: out,h,q=>by
   obtain⟨n',t,e1,rfl⟩:=q 0 v rfl
   cases e1
   exact .cons n t (Ll (by simpa using h) λi u hu=>q (i+1) u hu)
theorem Sm:∀ {us:List Value} {ys:List Int},IntsAre us ys->Vals (ys.map V.int) us
 | _,_,.nil=>.nil
 | _,_,.cons y t h=>.cons ⟨t,rfl⟩ (Sm h)
section
variable {X:Cx}
def Yi:List V->Hp->VK->Prop:=λxs H Q=>∃(d:Addr) (kvs:List (Key×V)) (ns:List Int),xs=[.ref d]/\H d=some (.dK kvs)/\kvs.map (·.1)=ns.map Sum.inl/\ns.length<64/\∀ p (ms:List Int),H p=none->ms.Perm ns->ms.Pairwise (· <= ·)->Q (.ref p) (upd H p (.lst (ms.map V.int)))
theorem Nr (hc:X.calm=true):CallR X (.builtin "sorted") Yi:=by
 intro pins s σ H xs us Q I r h
 obtain⟨d,kvs,ns,rfl,hd,hk,hz,q⟩:=h
 obtain⟨u,rfl,ru⟩:=Km r
 cases ru
 obtain⟨_,hs,vs,rel,dd⟩:=Rl I.hok hd
 obtain⟨ep,hat⟩:=dd.dictAt
 have hlen:=rel.length
 have hkl:kvs.length=ns.length:=by have:=congrArg List.length hk;simpa using this
 refine Calls.call_function_entry kind_sorted plain_sorted entry_sorted (args_sorted1 _) ?_
 unfold Builtin.«sorted»
 refine A01 (m:=checkCount "sorted" 1 1 _) (A06 ?_)
 refine wpAny_bind (PySem.W.kdu_collect (PySem.W.kdl_dict (knd:=Ar X.prog X.w) (kvs:=vs) (ep:=ep) hs) (by simpa using I.ok.hd hc) hat (by rw[sizeLine_eq];omega) λh1 tk acc k1 hacc=>?_)
 have hl:acc.toList.length=vs.length:=by rw[A4K];exact hacc.1
 refine A01 (wpAny_newList ?_ (by rw[hl,A14];omega))
 have hI:IntsAre acc.toList ns:=Ll (by omega) λi v hv=>by
  obtain⟨k,x,hkx,hkv⟩:=hacc.2 i v (by rw[<- A39];exact hv)
  have hk':(kvs.map (·.1))[i]? = some k:=by
   rw[rel.keys,A0A,hkx]
   rfl
  rw[hk,A0A] at hk'
  obtain⟨n,hn,rfl⟩:=A1L.mp hk'
  have hkv:Pj (Sum.inl n) v=true:=hkv
  rcases Bp hkv with ⟨i',t,e1,rfl⟩ | ⟨x',t,e1,_⟩
  . cases e1
    exact⟨n,t,hn,rfl⟩
  cases e1
 have hnew:(h1.push (seqObj "list" acc.toList.toArray 0)).get? h1.objs.size=some (seqObj "list" acc.toList.toArray 0):=A0E _ rfl
 show wpAny _ _ _ _ _ { s with heap:=h1.push (seqObj "list" acc.toList.toArray 0),toks:=tk }
 refine A01 (A1F (A3C slot_list_sort ⟨_,hnew,rfl⟩ entry_list_sort (list_sort_tree hnew hI (by omega) λout ns' a1 a2 a3=>⟨_,rfl,?_⟩) (args_list_sort _)))
 obtain⟨e,he⟩:=sortedHeap_at (out:=out) hnew
 have I1:Inv X pins σ H { s with heap:=h1,toks:=tk }:=I.kept (t':=tk) k1
 have k2:∀ b ob,h1.get? b=some ob->(sortedHeap (h1.push (seqObj "list" acc.toList.toArray 0)) h1.objs.size acc.toList out).get? b=some ob:=λb ob hb=>by
  have hlt:=A09 hb
  rw[sortedHeap_old (A0J hlt) (by rw[size_push'];exact A2Q hlt)]
  exact A02 _ hb
 exact A06 ⟨_,rfl,.ref _,_,I1.laid (t':=tk) (o:=.lst (ns'.map V.int)) k2 (A07 _) ⟨by rw[A00,a2.length_eq,A14];omega,out.toList,e,Sm a1,by rw[Array.toArray_toList];exact he⟩,rfl,q _ ns' (I1.hok.fresh (A07 _)) a2 a3⟩
theorem Wg {d:Addr}{kvs:List (Key×V)}{ns:List Int}{H:Hp}{Q:VK}(h:H d=some (.dK kvs))(hk:kvs.map (·.1)=ns.map Sum.inl)(hz:ns.length<64)(k:∀ p (ms:List Int) H',H p=none->Same H H'->H' p=some (.lst (ms.map V.int))->ms.Perm ns->ms.Pairwise (· <= ·)->Q (.ref p) H'):Yi [.ref d] H Q:=
 ⟨d,kvs,ns,rfl,h,hk,hz,λp ms hp h1 h2=>k p ms _ hp (Same.upd hp) Ad h1 h2⟩
theorem Ol:∀ {a b:List Int},a.Perm b->a.Pairwise (· <= ·)->b.Pairwise (· <= ·)->a=b:=λp ha hb=>List.Perm.eq_of_pairwise (λa b _ _ h1 h2=>Int.le_antisymm h1 h2) ha hb p
end
theorem aF6 {s z a:Nat}(hs:s<26)(ha:a<z)(hz:z<=8){l:List Nat}(hl:l∈nm1 s z a):l.length=z:=by
 obtain⟨k,hk,rfl⟩:=A0I.mp hl
 have hm:5*k % 26<26:=Nat.mod_lt _ ∅
 have e1:=Je (a:=s) (b:=s+a) (by omega) (by omega)
 have e2:=M3 (i:=s+5*k % 26) (by omega)
 have e3:=Je (a:=s+a+1) (b:=s+z) (by omega) (by omega)
 simp only[List.length_append]
 omega
def aw8 (K:PySem.W.Frag):List V->Hp->VK->Prop:=λxs H Q=>∃(a:Addr) (ys:List V) (p:Addr) (cs:List String) (b:Bool),xs=[.ref a,.ref p]/\SqL K H a ys/\H p=some (.tup (cs.map V.ty))/\PySem.W.kitAny K (.type "list") (cs.map Value.type)=some b/\Q (.bl b) H
theorem Zs {X:Cx}:CallR X (.builtin "isinstance") (aw8 X.K):=by
 intro pins s σ H xs us Q I r h
 obtain⟨a,ys,p,cs,b,rfl,ty,hp,e,q⟩:=h
 obtain⟨u,w',rfl,r1,r2⟩:=Tn r
 cases r1;cases r2
 obtain⟨_,its,ri,ob,g1,g2,⟨n,g3⟩,g4⟩:=(show ObjOk X.prog X.w H s.heap p (.tup (cs.map V.ty)) from I.hok p _ hp)
 obtain rfl:=Qz ri
 obtain⟨oc,odd,oda,osl⟩:=ob
 dsimp only at g2 g3 g4
 subst g2 g3 g4
 obtain⟨its2,_,pp,_⟩:=I.list ty
 obtain⟨o,_,h1,h2,_⟩:=pp
 exact PySem.W.kia_tup A3S I.kIn ⟨o,h1,h2⟩ g1 e (λz=>nomatch z) λtk=>⟨.bl _,H,I.tok _,rfl,q⟩
def aw4 (K:PySem.W.Frag):List V->Hp->VK->Prop:=λxs H Q=>aI6 K xs H Q\/aw8 K xs H Q
theorem Ym {X:Cx}{K:PySem.W.Frag}(hK:X.K=K:=by ac_nf):CallR X (.builtin "isinstance") (aw4 K):=hK ▸ call_isU.or Zs
theorem aA1 {K:PySem.W.Frag}{H:Hp}{Q:VK}{a p:Addr}{ys:List V}{cs:List String}{b:Bool}(h:SqL K H a ys\/SqT K H a ys)(hp:H p=some (.tup (cs.map V.ty)))(e:PySem.W.kitAny K (.type "tuple") (cs.map Value.type)=some b)(e':PySem.W.kitAny K (.type "list") (cs.map Value.type)=some b)(k:Q (.bl b) H):aw4 K [.ref a,.ref p] H Q:=by
 rcases h with h | h
 . exact .inr ⟨a,ys,p,cs,b,rfl,h,hp,e',k⟩
 exact .inl ⟨a,ys,p,cs,b,rfl,h,hp,e,k⟩
structure NamesP (ns:List Str):Prop where
 nm:Names ns
 zz:("spare":Str)∉ns
theorem NamesP.perm {ns ms:List Str}(h:NamesP ns)(p:ms.Perm ns):NamesP ms:=⟨h.nm.perm p,λq=>h.zz (p.mem_iff.mp q)⟩
theorem NamesP.sublist {ns ms:List Str}(h:NamesP ns)(p:ms.Sublist ns):NamesP ms:=⟨h.nm.sublist p,λq=>h.zz (p.subset q)⟩
theorem NamesP.turn {ns:List Str}(h:NamesP ns)(t n:Nat):NamesP ((ns.drop t++ns.take t).take n):=
 NamesP.sublist (ns:=ns.drop t++ns.take t) (h.perm (List.perm_append_comm.trans (by rw[List.take_append_drop]))) (List.take_sublist _ _)
theorem Mm {ns:List Str}(h:NamesP ns){k:Int}:∃ ms,Ww (ns.map V.str) k=ms.map V.str/\NamesP ms/\ms.length=ns.length:=by
 unfold Ww
 split
 . exact⟨ns,rfl,h,rfl⟩
 exact⟨ns.reverse,by rw[List.map_reverse],h.perm (List.reverse_perm _),List.length_reverse ..⟩
def T2:List Nat:=[115,112,97,114,101]
theorem Xy:("spare":Str)=txt T2:=by decide +kernel
theorem Nw {ls:List (List Nat)}(h:Names (ls.map txt))(h2:T2∉ls):NamesP (ls.map txt):=by
 refine⟨h,λq=>?_⟩
 rw[Xy] at q
 obtain⟨l,hl,e⟩:=A0I.mp q
 exact h2 (Zz e ▸ hl)
theorem zz1P:∀ s<26,∀ a<5,T2∉nm1 s 5 a:=by decide +kernel
theorem aH5:∀ s<26,T2∉nm0 s/\T2∉nm2 s:=by decide +kernel
theorem aq0 {s z a:Nat}(hs:s<26)(ha:a<z)(hz:z<=8):NamesP ((nm1 s z a).map txt):=by
 refine Nw (as5 hs ha hz) λq=>?_
 obtain rfl:5=z:=aF6 hs ha hz q
 exact zz1P s hs a ha q
theorem an9 {s:Nat}(hs:s<26):NamesP ((nm0 s).map txt):=Nw (ax8 hs) (aH5 s hs).1
theorem ap0 {s:Nat}(hs:s<26):NamesP ((nm2 s).map txt):=Nw (au0 hs) (aH5 s hs).2
theorem aj8:NamesP nm3:=⟨az8,by decide +kernel⟩
end L2
namespace K77
open PySem L2 PySem.Spec PyProof.Rows
def top (i:Nat):Stmt:=PySem.Challenge.pw_halforder_k77_two_keepers_by_turns.main.body.getD i (.Pass ⟨0,0,0,0⟩)
abbrev Nk:Stmt:=top 0
abbrev Be:Stmt:=top 18
theorem G7:Aj ["half","asked","name"] ["half","asked"] (A6 Be):=⟨rfl,rfl,rfl,by decide +kernel,rfl,by decide +kernel,by decide +kernel⟩
abbrev Cw:Stmt:=top 19
theorem Cl:Aj ["half","names","reach","saying","middle","name"] ["half"] (A6 Cw):=⟨rfl,rfl,rfl,by decide +kernel,rfl,by decide +kernel,by decide +kernel⟩
abbrev Hk:Stmt:=top 21
theorem Hj:Aj ["names","bits","bit","name"] ["names"] (A6 Hk):=⟨rfl,rfl,rfl,by decide +kernel,rfl,by decide +kernel,by decide +kernel⟩
abbrev Dt:Stmt:=top 22
theorem Ft:Aj ["half","bits","reach","found","name"] ["half","bits"] (A6 Dt):=⟨rfl,rfl,rfl,by decide +kernel,rfl,by decide +kernel,by decide +kernel⟩
abbrev Kx:Stmt:=top 24
theorem Vo:Aj ["half","ways"] ["half"] (A6 Kx):=⟨rfl,rfl,rfl,by decide +kernel,rfl,by decide +kernel,by decide +kernel⟩
abbrev Hf:Stmt:=top 28
theorem X5:Aj ["thing"] ["thing"] (A6 Hf):=⟨rfl,rfl,rfl,by decide +kernel,rfl,by decide +kernel,by decide +kernel⟩
abbrev Bd:Stmt:=top 29
theorem K2:Aj ["thing"] ["thing"] (A6 Bd):=⟨rfl,rfl,rfl,by decide +kernel,rfl,by decide +kernel,by decide +kernel⟩
abbrev Bw:Stmt:=top 33
theorem Ku:Aj ["thing"] ["thing"] (A6 Bw):=⟨rfl,rfl,rfl,by decide +kernel,rfl,by decide +kernel,by decide +kernel⟩
abbrev Bu:Stmt:=top 34
theorem Bk:Aj ["sayings","start","goal","ways","waiting","name","number","saying"] ["sayings","start","goal"] (A6 Bu):=⟨rfl,rfl,rfl,by decide +kernel,rfl,by decide +kernel,by decide +kernel⟩
abbrev Et:Stmt:=top 38
theorem Se:Aj ["_law_script"] ["_law_script"] (A6 Et):=⟨rfl,rfl,rfl,by decide +kernel,rfl,by decide +kernel,by decide +kernel⟩
abbrev Ep:Stmt:=top 39
theorem Fe:Aj ["_law_feed_here","_law_many","_law_cell","_law_mixed","_law_found"] ["_law_feed_here","_law_many"] (A6 Ep):=⟨rfl,rfl,rfl,by decide +kernel,rfl,by decide +kernel,by decide +kernel⟩
abbrev Dq:Stmt:=top 40
theorem As:Aj ["_law_feed_here","_law_many","_law_letters","_law_start","_law_way","_law_size","_law_at","_law_names_here","_law_head","_law_tail","_law_turn"] ["_law_feed_here","_law_many"] (A6 Dq):=⟨rfl,rfl,rfl,by decide +kernel,rfl,by decide +kernel,by decide +kernel⟩
abbrev Df:Stmt:=top 41
theorem Cf:Aj ["_law_half","_law_name","_law_found","_law_line","_law_here","_law_one","_law_other"] ["_law_half","_law_name"] (A6 Df):=⟨rfl,rfl,rfl,by decide +kernel,rfl,by decide +kernel,by decide +kernel⟩
abbrev Cg:Stmt:=top 42
theorem G5:Aj ["_law_e","_law_found","_law_strange"] ["_law_e"] (A6 Cg):=⟨rfl,rfl,rfl,by decide +kernel,rfl,by decide +kernel,by decide +kernel⟩
abbrev Ci:Stmt:=top 43
theorem B2:Aj ["_law_keeper","_law_word","_law_one","_law_other","_law_found","_law_e"] ["_law_keeper","_law_word","_law_one","_law_other"] (A6 Ci):=⟨rfl,rfl,rfl,by decide +kernel,rfl,by decide +kernel,by decide +kernel⟩
abbrev Er:Stmt:=top 44
theorem Tu:Aj ["_law_names_here","_law_keeper"] ["_law_names_here","_law_keeper"] (A6 Er):=⟨rfl,rfl,rfl,by decide +kernel,rfl,by decide +kernel,by decide +kernel⟩
abbrev Ch:Stmt:=top 45
theorem Nm:Aj ["_law_side_here"] ["_law_side_here"] (A6 Ch):=⟨rfl,rfl,rfl,by decide +kernel,rfl,by decide +kernel,by decide +kernel⟩
abbrev Cv:Stmt:=top 46
theorem Ey:Aj ["_law_side_here","_law_way","_law_name","_law_other","_law_here","_law_number"] ["_law_side_here","_law_way","_law_name","_law_other"] (A6 Cv):=⟨rfl,rfl,rfl,by decide +kernel,rfl,by decide +kernel,by decide +kernel⟩
abbrev Fx:Stmt:=top 47
theorem Hv:Aj ["_law_side_here","_law_name","_law_other","_law_told","_law_one","_law_number"] ["_law_side_here","_law_name","_law_other"] (A6 Fx):=⟨rfl,rfl,rfl,by decide +kernel,rfl,by decide +kernel,by decide +kernel⟩
abbrev El:Stmt:=top 48
theorem Lh:Aj ["_law_side_here","_law_number","_law_told"] ["_law_side_here","_law_number"] (A6 El):=⟨rfl,rfl,rfl,by decide +kernel,rfl,by decide +kernel,by decide +kernel⟩
abbrev Fw:Stmt:=top 49
theorem Uf:Aj ["_law_side_here","_law_deed_here","_law_is_said"] ["_law_side_here","_law_deed_here","_law_is_said"] (A6 Fw):=⟨rfl,rfl,rfl,by decide +kernel,rfl,by decide +kernel,by decide +kernel⟩
abbrev Ek:Stmt:=top 50
theorem Gi:Aj ["_law_side_here","_law_word","_law_told","_law_ways","_law_deed_here"] ["_law_side_here","_law_word"] (A6 Ek):=⟨rfl,rfl,rfl,by decide +kernel,rfl,by decide +kernel,by decide +kernel⟩
abbrev Da:Stmt:=top 51
theorem Fc:Aj ["_law_side_here","_law_keeper","_law_number","_law_due"] ["_law_side_here"] (A6 Da):=⟨rfl,rfl,rfl,by decide +kernel,rfl,by decide +kernel,by decide +kernel⟩
abbrev Ev:Stmt:=top 52
theorem J4:Aj ["_law_feed_here","_law_side_here","_law_names_here","_law_way"] ["_law_feed_here","_law_side_here"] (A6 Ev):=⟨rfl,rfl,rfl,by decide +kernel,rfl,by decide +kernel,by decide +kernel⟩
abbrev Rm:Stmt:=top 53
theorem Jn:Aj ["_law_script","_law_feed_here","_law_first","_law_names_here","_law_handed","_law_two","_law_held","_law_turn","_law_side_here","_law_half"] ["_law_script"] (A6 Rm):=⟨rfl,rfl,rfl,by decide +kernel,rfl,by decide +kernel,by decide +kernel⟩
abbrev Es:Stmt:=Br (top 23) 0
theorem Sb:Aj ["self","half"] ["self","half"] (A6 Es):=⟨rfl,rfl,rfl,by decide +kernel,rfl,by decide +kernel,by decide +kernel⟩
abbrev Bm:Stmt:=Br (top 23) 1
theorem Kq:Aj ["self","left"] ["self","left"] (A6 Bm):=⟨rfl,rfl,rfl,by decide +kernel,rfl,by decide +kernel,by decide +kernel⟩
abbrev By:Stmt:=Br (top 23) 2
theorem Ny:Aj ["self","left"] ["self","left"] (A6 By):=⟨rfl,rfl,rfl,by decide +kernel,rfl,by decide +kernel,by decide +kernel⟩
abbrev Db:Stmt:=Br (top 36) 0
theorem Pm:Aj ["self","names"] ["self","names"] (A6 Db):=⟨rfl,rfl,rfl,by decide +kernel,rfl,by decide +kernel,by decide +kernel⟩
abbrev Cm:Stmt:=Br (top 36) 1
theorem Mt:Aj ["self","kept","following"] ["self","kept","following"] (A6 Cm):=⟨rfl,rfl,rfl,by decide +kernel,rfl,by decide +kernel,by decide +kernel⟩
abbrev Du:Stmt:=Br (top 36) 2
theorem Fu:Aj ["self","name","other","back","kept","number"] ["self","name","other"] (A6 Du):=⟨rfl,rfl,rfl,by decide +kernel,rfl,by decide +kernel,by decide +kernel⟩
abbrev Dd:Stmt:=Br (top 36) 3
theorem Pl:Aj ["self","number"] ["self","number"] (A6 Dd):=⟨rfl,rfl,rfl,by decide +kernel,rfl,by decide +kernel,by decide +kernel⟩
abbrev Dg:Stmt:=Br (top 36) 4
theorem Pg:Aj ["self"] ["self"] (A6 Dg):=⟨rfl,rfl,rfl,by decide +kernel,rfl,by decide +kernel,by decide +kernel⟩
abbrev Dc:Stmt:=Br (top 36) 5
theorem Ot:Aj ["self"] ["self"] (A6 Dc):=⟨rfl,rfl,rfl,by decide +kernel,rfl,by decide +kernel,by decide +kernel⟩
abbrev Bt:Stmt:=Br (top 36) 6
theorem Lf:Aj ["self"] ["self"] (A6 Bt):=⟨rfl,rfl,rfl,by decide +kernel,rfl,by decide +kernel,by decide +kernel⟩
abbrev C4:Stmt:=Br (top 36) 7
theorem Ie:Aj ["self","number","entry"] ["self","number"] (A6 C4):=⟨rfl,rfl,rfl,by decide +kernel,rfl,by decide +kernel,by decide +kernel⟩
abbrev De:Stmt:=Br (top 36) 8
theorem Oi:Aj ["self"] ["self"] (A6 De):=⟨rfl,rfl,rfl,by decide +kernel,rfl,by decide +kernel,by decide +kernel⟩
abbrev Ef:Stmt:=Br (top 36) 9
abbrev Dz:Stmt:=Br (top 36) 10
abbrev Cj:Stmt:=Br (top 36) 11
theorem Iu:Aj ["self","name","other","reach"] ["self","name","other"] (A6 Cj):=⟨rfl,rfl,rfl,by decide +kernel,rfl,by decide +kernel,by decide +kernel⟩
abbrev Bl:Stmt:=Br (top 36) 12
theorem Gk:Aj ["self","name","other","way"] ["self","name","other"] (A6 Bl):=⟨rfl,rfl,rfl,by decide +kernel,rfl,by decide +kernel,by decide +kernel⟩
abbrev Ct:Stmt:=Br (top 36) 13
theorem Pa:Aj ["self","name","other"] ["self","name","other"] (A6 Ct):=⟨rfl,rfl,rfl,by decide +kernel,rfl,by decide +kernel,by decide +kernel⟩
abbrev Cs:Stmt:=Br (top 3) 0
theorem Os:Aj ["self","word","number"] ["self","word","number"] (A6 Cs):=⟨rfl,rfl,rfl,by decide +kernel,rfl,by decide +kernel,by decide +kernel⟩
abbrev Dh:Stmt:=Br (top 5) 0
theorem Pe:Aj ["self","name"] ["self","name"] (A6 Dh):=⟨rfl,rfl,rfl,by decide +kernel,rfl,by decide +kernel,by decide +kernel⟩
abbrev Cn:Stmt:=Br (top 6) 0
theorem Mj:Aj ["self","word"] ["self","word"] (A6 Cn):=⟨rfl,rfl,rfl,by decide +kernel,rfl,by decide +kernel,by decide +kernel⟩
abbrev Ds:Stmt:=Br (top 11) 0
theorem Qn:Aj ["self","way"] ["self","way"] (A6 Ds):=⟨rfl,rfl,rfl,by decide +kernel,rfl,by decide +kernel,by decide +kernel⟩
abbrev C6:Stmt:=Br (top 15) 0
theorem Lv:Aj ["self","number"] ["self","number"] (A6 C6):=⟨rfl,rfl,rfl,by decide +kernel,rfl,by decide +kernel,by decide +kernel⟩
structure Fp (mg:Str->Option Value):Prop where
 g_MOST_NAMES:∃ u,mg "MOST_NAMES" = some u/\RelV (.int 10) u
 g_MOST_SAYINGS:∃ u,mg "MOST_SAYINGS" = some u/\RelV (.int 60) u
 g_MOST_SIGNS:∃ u,mg "MOST_SIGNS" = some u/\RelV (.int 8) u
 g_SMALL_LETTERS:∃ u,mg "SMALL_LETTERS" = some u/\RelV (.str "abcdefghijklmnopqrstuvwxyz") u
 b_ValueError:mg "ValueError" = none
 b_all:mg "all" = none
 b_bool:mg "bool" = none
 b_dict:mg "dict" = none
 b_enumerate:mg "enumerate" = none
 b_int:mg "int" = none
 b_isinstance:mg "isinstance" = none
 b_len:mg "len" = none
 b_list:mg "list" = none
 b_range:mg "range" = none
 b_repr:mg "repr" = none
 b_set:mg "set" = none
 b_sorted:mg "sorted" = none
 b_str:mg "str" = none
 b_sum:mg "sum" = none
 b_tuple:mg "tuple" = none
structure Ji (K:PySem.W.Frag)(C:Addr):Prop where
 cl:Cls K C
 n_names:NoAttr K C "names"
 n_bits:NoAttr K C "bits"
 n_ahead:NoAttr K C "ahead"
 n_full:NoAttr K C "full"
 n_known:NoAttr K C "known"
structure Aq (K:PySem.W.Frag)(C:Addr):Prop where
 cl:Cls K C
 n_names:NoAttr K C "names"
 n_now:NoAttr K C "now"
 n_past:NoAttr K C "past"
 n_undone:NoAttr K C "undone"
structure Ao (K:PySem.W.Frag)(mg:Str->Option Value)(C B:Addr):Prop where
 xc:XC K C
 gl:mg "HalfError" = some (.ref C)
 mk0:aq5 K mg C "HalfError"
structure L9 (K:PySem.W.Frag)(mg:Str->Option Value)(C B:Addr):Prop where
 xc:XC K C
 gl:mg "NoHalf" = some (.ref C)
 mr:Di K C B=true
 n_word:NoAttr K C "word"
 n_number:NoAttr K C "number"
structure Qk (K:PySem.W.Frag)(mg:Str->Option Value)(C B:Addr):Prop where
 xc:XC K C
 gl:mg "NoText" = some (.ref C)
 mr:Di K C B=true
 n_row:NoAttr K C "row"
structure Bv (K:PySem.W.Frag)(mg:Str->Option Value)(C B:Addr):Prop where
 xc:XC K C
 gl:mg "NoName" = some (.ref C)
 mr:Di K C B=true
 n_name:NoAttr K C "name"
structure Ge (K:PySem.W.Frag)(mg:Str->Option Value)(C B:Addr):Prop where
 xc:XC K C
 gl:mg "TooMany" = some (.ref C)
 mr:Di K C B=true
 n_word:NoAttr K C "word"
structure Ms (K:PySem.W.Frag)(mg:Str->Option Value)(C B:Addr):Prop where
 xc:XC K C
 gl:mg "NoCover" = some (.ref C)
 mr:Di K C B=true
 mk0:aq5 K mg C "NoCover"
structure Nj (K:PySem.W.Frag)(mg:Str->Option Value)(C B:Addr):Prop where
 xc:XC K C
 gl:mg "NoPlace" = some (.ref C)
 mr:Di K C B=true
 n_number:NoAttr K C "number"
structure Nx (K:PySem.W.Frag)(mg:Str->Option Value)(C B:Addr):Prop where
 xc:XC K C
 gl:mg "NoOrder" = some (.ref C)
 mr:Di K C B=true
 mk0:aq5 K mg C "NoOrder"
structure Pq (K:PySem.W.Frag)(mg:Str->Option Value)(C B:Addr):Prop where
 xc:XC K C
 gl:mg "NoJoin" = some (.ref C)
 mr:Di K C B=true
 n_word:NoAttr K C "word"
structure Im (K:PySem.W.Frag)(mg:Str->Option Value)(C B:Addr):Prop where
 xc:XC K C
 gl:mg "Clash" = some (.ref C)
 mr:Di K C B=true
 n_way:NoAttr K C "way"
structure Mn (K:PySem.W.Frag)(mg:Str->Option Value)(C B:Addr):Prop where
 xc:XC K C
 gl:mg "NoPaper" = some (.ref C)
 mr:Di K C B=true
 n_word:NoAttr K C "word"
 n_row:NoAttr K C "row"
structure Pr (K:PySem.W.Frag)(mg:Str->Option Value)(C B:Addr):Prop where
 xc:XC K C
 gl:mg "NoPlan" = some (.ref C)
 mr:Di K C B=true
 n_word:NoAttr K C "word"
 n_path:NoAttr K C "path"
structure Nz (K:PySem.W.Frag)(mg:Str->Option Value)(C B:Addr):Prop where
 xc:XC K C
 gl:mg "NoBound" = some (.ref C)
 mr:Di K C B=true
 n_word:NoAttr K C "word"
 n_row:NoAttr K C "row"
structure Dv (K:PySem.W.Frag)(mg:Str->Option Value)(C B:Addr):Prop where
 xc:XC K C
 gl:mg "NoSaying" = some (.ref C)
 mr:Di K C B=true
 n_number:NoAttr K C "number"
structure Hc (K:PySem.W.Frag)(mg:Str->Option Value)(C B:Addr):Prop where
 xc:XC K C
 gl:mg "NoMore" = some (.ref C)
 mr:Di K C B=true
 mk0:aq5 K mg C "NoMore"
section
variable {P:Program}{w:World}{K:PySem.W.Frag}{mg:Str->Option Value}{base:Heap}
local macro_rules | `(tactic| walk_at "lk") => L2.mRows "as | Same.lk e h: e=as h=lk | ExtBut.lk e h n: e=as n=ne h=lk | no"
local macro_rules | `(tactic| walk_at "ne") => L2.mRows "as | Ne.symm q: q=as | ne_of_none h g: g=as h=lk | ne_none2 h g: g=as h=lk | ne_of h g z: h=as g=as z=nc | no"
local macro_rules | `(tactic| walk_at "nc") => `(tactic| (intro z; cases z))
local macro_rules | `(tactic| walk_at "fr") => L2.mRows "ExtBut.refl | ExtBut.trans a b: b=as a=fr | ExtBut.same a b: b=as a=fr | ExtBut.off a q b: b=as q=as a=fr | no"
local macro_rules | `(tactic| walk_at "sm") => L2.mRows "same_refl | Same.trans a b: b=as a=sm | Same.off a q b: b=as q=as a=sm | no"
local macro_rules | `(tactic| walk_at "fd") => L2.mRows "as | Feed.same h e: e=as h=fd | Feed.off h e q f: e=as q=as f=as h=fd | no"
local macro_rules | `(tactic| walk_at "fz1") => L2.mRows "Same.fz b: b=as | ExtBut.fzL b l: b=as l=lk | ExtBut.fzD b l: b=as l=lk | Feed.fz f b: b=as f=fd | no"
local macro_rules | `(tactic| walk_at "fz") => L2.mRows "fz_refl | Fz.trans a x: x=fz1 a=fz | no"
local macro_rules | `(tactic| walk_at "sd") => `(tactic| first | omega | (show (0 : Int) < _; omega) | (unfold aG4; omega) | (unfold CMul; omega) | (unfold aG5; omega) | (unfold aG5; decide) | (refine ⟨?_, ?_⟩ <;> omega) | decide)
local macro_rules | `(tactic| walk_at "sz") => `(tactic| first | decide | exact Aa (by omega) | (rw [sizeLine_eq]; omega))
local macro_rules | `(tactic| walk_at "kv") => `(tactic| rfl)
local macro_rules | `(tactic| walk_at "rq1") => do
 let a <- L2.mAlts "i_asg i_gname i_ret i_drop i_if i_op i_un i_call i_cb i_cons i_nil i_c i_put i_tTest i_tB i_not i_and i_or i_tup i_lst i_next i_sl i_noPart i_part i_int i_for i_rng1 i_rng2 i_comp i_itS i_iany i_ienum i_ienumL i_irev i_chain i_andV i_orV i_notV i_dget1 i_tAt i_sSt i_tMe i_tMk i_tTru i_dget2 i_iDT i_bmT i_rU i_rI0 i_addI i_bl i_bm i_bm0 i_reprKB i_isN i_isNotN i_isB i_isNotB i_true i_tyS i_find i_intB i_inS i_pair i_pair0 iteR iteNR iteNbb itebb iteT iteF iteNT iteNF"
 let b <- L2.mRows "i_var w _: w=kv | i_rI w _: w=sd | i_mulBI w _: w=sd | i_tyLm w _: w=lk | i_ixD w v _: w=lk v=kv | i_eqS w _: w=kv | i_neS w _: w=kv | i_slS w _: w=sz | i_addS w _: w=sz | i_lenS w _: w=sz | i_lenL w _: w=lk | i_lenT w _: w=lk | i_cutN w _: w=ar"
 let c <- L2.mAltG "i_seqAG i_seqDG i_seqPG"
 `(tactic| first | $c:tactic | $a:tactic | $b:tactic)
local macro_rules | `(tactic| walk_at "rd1") => `(tactic| first | with_reducible refine aA0 fun N hN => ?_ | walk_at "rq1")
local macro_rules | `(tactic| walk_at "rq") => `(tactic| repeat (walk_at "rq1"))
local macro_rules | `(tactic| walk_at "rd") => `(tactic| repeat (walk_at "rd1"))
def Fm (l:Addr)(a t u:Int):List (Key×V):=[(Sum.inr "cells",.ref l),(Sum.inr "at",.int a),(Sum.inr "left",.int t),(Sum.inr "turn",.int u)]
def Feed (H:Hp)(d l:Addr):Prop:=∃(a t u:Int) (ns:List Int),H d=some (.dK (Fm l a t u))/\H l=some (.lst (ns.map V.int))/\0<ns.length/\ns.length<=64
def Iq (K:PySem.W.Frag):Sp:=λvs H Q _=>∃(a:Addr) (ns:List Int),vs=[.ref a]/\SqL K H a (ns.map V.int)/\ns.length<=63/\∀ d l H',H d=none->H l=none->Same H H'->Feed H' d l->Q (.ref d) H'
def Fg (K:PySem.W.Frag):Sp:=λvs H Q _=>∃ d l n,vs=[.ref d,.int n]/\Feed H d l/\0<n/\n<1073741824/\∀ r H',0<=r->r<n->ExtBut d H H'->Feed H' d l->Q (.int r) H'
theorem ac2 {l:Addr}{a t u:Int}:Dj (Fm l a t u) (Sum.inr "cells":Key)=some (.ref l):=by rfl
theorem aF2 {l:Addr}{a t u:Int}:Dj (Fm l a t u) (Sum.inr "at":Key)=some (.int a):=by rfl
theorem ao3 {l:Addr}{a t u:Int}:Dj (Fm l a t u) (Sum.inr "left":Key)=some (.int t):=by rfl
theorem ak0 {l:Addr}{a t u:Int}:Dj (Fm l a t u) (Sum.inr "turn":Key)=some (.int u):=by rfl
local macro_rules | `(tactic| walk_at "kv") => `(tactic| first | exact ac2 | exact aF2 | exact ao3 | exact ak0 | rfl)
theorem a93 {l:Addr}{a t u x:Int}:Hl (Fm l a t u) (Sum.inr "turn":Key) (.int x)=Fm l a t x:=by rfl
theorem au6 {l:Addr}{a t u x:Int}:Hl (Fm l a t u) (Sum.inr "at":Key) (.int x)=Fm l x t u:=by rfl
theorem Qq {l:Addr}{a t u x:Int}:Hl (Fm l a t u) (Sum.inr "left":Key) (.int x)=Fm l a x u:=by rfl
theorem Feed.same {H H':Hp}{d l:Addr}(h:Feed H d l)(e:Same H H'):Feed H' d l:=let ⟨a,t,u,ns,h1,h2,h3,h4⟩:=h;⟨a,t,u,ns,e _ _ h1,e _ _ h2,h3,h4⟩
theorem Feed.nd {H:Hp}{d l p:Addr}(h:Feed H d l)(hp:H p=none):d≠p:=let ⟨_,_,_,_,h1,_⟩:=h;ne_of_none h1 hp
theorem Feed.lst {H:Hp} {d l b:Addr} {xs:List V} (h:Feed H d l) (hb:H b=some (.lst xs)):b≠d:=let ⟨_,_,_,_,h1,_⟩:=h;ne_of hb h1 (by intro z;cases z)
theorem Feed.free {H H':Hp}{d l p:Addr}(h:Feed H' d l)(e:ExtBut d H H')(hp:H' p=none):H p=none:=by
 cases hq:H p with
 | none=>rfl
 | some o=>
   obtain⟨_,_,_,_,h1,_⟩:=h
   have n:p≠d:=λq=>by subst q;rw[hp] at h1;cases h1
   rw[e p o n hq] at hp
   cases hp
theorem Feed.fz {H H':Hp}{d l:Addr}(h:Feed H d l)(e:ExtBut d H H'):Fz H H':=let ⟨_,_,_,_,h1,_⟩:=h;e.fzD h1
theorem Sc {f:Addr}{fd:FuncData}(F:Fun K "_law_draw" "_law_draw" Ep f fd)(T:Fp mg):FnOk P w K mg base CX0 1 f fd ["_law_feed_here","_law_many"] (Fg K):=by
 refine F.ok Fe (λvs H Q E h=>?_) (λcdv A outer s H vs Q E hr h=>?_)
 . obtain⟨d,l,n,rfl,_⟩:=h
   rfl
 obtain⟨d,l,n,rfl,⟨a,t,u,ns,hd,hl,h0,h64⟩,hn,hn2,k⟩:=h
 have hu:=Cc hr
 have hq:=Cd hr
 have hld:l≠d:=ne_of hl hd (by intro z;cases z)
 with_reducible refine⟨_,(A5 (Dn hu (pv 0) Ab (B3 (Aw (K:=K)) (Af (A8 (K:=K) hu) (pv 0) Ab (by ac_rfl)) A9) ⋯)
  (A5 (Bc (Ai (B5 (K:=K) hq) (Af (A8 (K:=K) hu) (pv 0) Ab (by ac_rfl)) A9 (An _)) (A5 (Al (i:=2) Fe.nd ⋯ (by eq_refl) (Af (A8 (K:=K) hu) (Af (A8 (K:=K) hu) (pv 0) Ab (by ac_rfl)) (B3 Lm (Af (A8 (K:=K) hu) (pv 0) Ab (by ac_rfl)) (Ag (C7 (K:=K)) ⋯ T.b_len PyProof.Rows.Boot.«len» (A3 (Af (A8 (K:=K) hu) (pv 0) Ab (by ac_rfl)) A4))) (by ac_rfl)))
  (A5 (Dn hu (pv 0) Ab (B3 (Aw (K:=K)) (Af (A8 (K:=K) hu) (pv 0) Ab (by ac_rfl)) A9) ⋯)
  (A5 (Bc (Ai ad7 (pv 2) (B3 ah3 A9 A9) (An _)) (A5 (Al (i:=3) Fe.nd ⋯ (by eq_refl) (B3 Lm (B3 Fy (B3 (Aw (K:=K)) (B3 Lm (pv 2) A9) (B3 Fy A9 (Af (A8 (K:=K) hu) (pv 0) Ab (by ac_rfl)))) A9) A9))
  (A5 (Al (i:=3) Fe.nd ⋯ (by eq_refl) (B3 Lm (B3 Fy (B3 (Aw (K:=K)) (B3 Qx (pv 3) A9) (B3 Fy A9 (Af (A8 (K:=K) hu) (pv 0) Ab (by ac_rfl)))) A9) A9))
  (A7 (Ap (B3 Lm (B3 Qx (pv 3) A9) (pv 1)))))) Am)
  (A7 (Dn hu (pv 0) Ab (pv 2) ⋯))))) Am)
  (A5 (Al (i:=4) Fe.nd ⋯ (by eq_refl) (B3 Lm (Af (A8 (K:=K) hu) (pv 0) Ab (by ac_rfl)) (pv 1)))
  (A5 (Dn hu (pv 0) Ab (B3 Qx (Af (A8 (K:=K) hu) (pv 0) Ab (by ac_rfl)) (pv 1)) ⋯)
  (A7 (Ap (pv 4))))))),?_⟩
 symm
 refine Gz hd (by show 4<1000;decide) λH1 e1 hd1=>?_
 rw[a93] at hd1
 have hl1:H1 l=some (.lst (ns.map V.int)):=e1 _ _ hld hl
 symm
 refine aJ7 (λht=>?_) (λht=>?_)
 . symm
   have hlen:(0:Int)<((ns.map V.int).length:Nat):=by rw[A00];omega
   refine i_rI hlen ?_
   have hm0:0<=a % (((ns.map V.int).length:Nat):Int):=A3L _ (by omega)
   have hm1:=A33 a hlen
   obtain⟨c,hc⟩:∃ c,(ns.map V.int)[(a % (((ns.map V.int).length:Nat):Int)).toNat]? = some (V.int c):=by
    refine⟨ns[(a % (((ns.map V.int).length:Nat):Int)).toNat]'(by rw[A00] at *;omega),?_⟩
    rw[A0A,A08]
    rfl
   refine Eh hl1 (by
    have:=C5 hc
    rwa[A4L hm0] at this) ?_
   symm
   refine Gz hd1 (by show 4<1000;decide) λH2 e2 hd2=>?_
   rw[au6] at hd2
   have hl2:H2 l=some (.lst (ns.map V.int)):=e2 _ _ hld hl1
   symm
   refine aJ7 (λhc1=>?_) (λhc1=>?_)
   . symm
     exact k _ H2 (A3L _ (by omega)) (A33 _ hn) (e1.trans e2) ⟨_,_,_,ns,hd2,hl2,h0,h64⟩
   symm
   refine Gz hd2 (by show 4<1000;decide) λH3 e3 hd3=>?_
   rw[Qq] at hd3
   have hl3:H3 l=some (.lst (ns.map V.int)):=e3 _ _ hld hl2
   symm
   refine Gz hd3 (by show 4<1000;decide) λH4 e4 hd4=>?_
   rw[Qq] at hd4
   have hl4:H4 l=some (.lst (ns.map V.int)):=e4 _ _ hld hl3
   symm
   exact k _ H4 (A3L _ (by omega)) (A33 _ hn) (((e1.trans e2).trans e3).trans e4) ⟨_,_,_,ns,hd4,hl4,h0,h64⟩
 symm
 refine Gz hd1 (by show 4<1000;decide) λH2 e2 hd2=>?_
 rw[Qq] at hd2
 have hl2:H2 l=some (.lst (ns.map V.int)):=e2 _ _ hld hl1
 symm
 exact k _ H2 (A3L _ (by omega)) (A33 _ hn) (e1.trans e2) ⟨_,_,_,ns,hd2,hl2,h0,h64⟩
theorem Yv (ns:List Int)(h:ns.length<=63):∃ ms:List Int,Ut (ns.map V.int) none (some 63)++(List.replicate (if(PyData.list (ns.map PyData.int)).eqv (PyData.list (([]:List Int).map PyData.int))=true then(1:Int) else 0).toNat [V.int 0]).flatten=ms.map V.int/\0<ms.length/\ms.length<=64:=by
 have hc:Ut (ns.map V.int) none (some 63)=ns.map V.int:=by
  unfold Ut
  have e:HT.sIx (ns.map V.int).length (ns.map V.int).length (some 63)=(ns.map V.int).length:=by
   have:=HT.sIx_nat (ns.map V.int).length (ns.map V.int).length 63
   rw[A00] at *
   rw[show((63:Nat):Int)=(63:Int) from rfl] at this
   rw[this]
   omega
  rw[HT.sIx_none,e,List.drop_zero,Nat.sub_zero,A17]
 rw[hc]
 cases ns with
 | nil=>exact⟨[0],by simp[PyData.eqv,PyData.eqvAll],by decide,by decide⟩
 | cons n r=>exact⟨n :: r,by simp[PyData.eqv,PyData.eqvAll],by simp,by omega⟩
theorem Tg {f:Addr}{fd:FuncData}(F:Fun K "_law_feed" "_law_feed" Et f fd)(T:Fp mg):FnOk P w K mg base CX0 1 f fd ["_law_script"] (Iq K):=by
 refine F.ok Se (λvs H Q E h=>?_) (λcdv A outer s H vs Q E hr h=>?_)
 . obtain⟨a,ns,rfl,_⟩:=h
   rfl
 obtain⟨a,ns,rfl,hS,h63,k⟩:=h
 have hu:=Cc hr
 have hq:=Cd hr
 with_reducible refine⟨_,(A7 (Ap (Re (Dm Ab (B3 (Aw (K:=K)) (Ay (Jf (K:=K)) ⋯ T.b_list PyProof.Rows.Boot.«list» (A3 (Fr (a81 (K:=K)) (pv 0) Mh (Em A9)) A4)) (B3 Fy (Bz (A3 A9 A4)) (Ay Ip ⋯ T.b_int PyProof.Rows.Boot.«int» (A3 (C3 (B5 (K:=K) hq) (pv 0) (Bz A4) (An _)) A4)))) (Dm Ab A9 (Dm Ab A9 (Dm Ab A9 R7)))) ⋯ ⋯ ∅ ∅))),?_⟩
 symm
 refine Vy λp H1 hp e1 hp1=>?_
 symm
 have hS1:=e1.seq hS
 refine Ys hS1 λq H2 hq2 e2 hq2'=>?_
 symm
 refine am2 (SqL.of hq2') λr H3 hr3 e3 hr3'=>?_
 symm
 refine B7 ∅ λz H4 hz4 e4 hz4'=>?_
 symm
 refine B7 ∅ λy H5 hy5 e5 hy5'=>?_
 refine R6 (M0 (e5.seq (e4.seq (e3.seq (e2.seq hS1))))) (M0 (ns:=[]) (SqL.of hy5')) (A36 ns) (A36 []) ?_
 symm
 refine Um (xs:=[V.int 0]) (by walk_at "lk") ?_ ?_ λx H6 hx6 e6 hx6'=>?_
 . split<;>omega
 . split<;>decide
 refine Qa (xs:=Ut (ns.map V.int) none (some 63)) (by walk_at "lk") hx6' ?_ λv H7 hv7 e7 hv7'=>?_
 . obtain⟨ms,e,h1,h2⟩:=Yv ns h63
   rw[<- A0H,e,A00]
   exact A0L h2 ∅
 symm
 refine Rn [(Sum.inr "cells",.ref v),(Sum.inr "at",.int 0),(Sum.inr "left",.int 0),(Sum.inr "turn",.int 0)] (by walk_at "lk") (by rfl) (by show 4<=15;decide) λH8 e8 h8=>?_
 have en:H8 p=some (.dK (Fm v 0 0 0)):=h8
 refine k p v H8 hp ?_ ?_ ⟨0,0,0,?_⟩
 . exact e1.free (e2.free (e3.free (e4.free (e5.free (e6.free hv7)))))
 . exact λb o hb=>e8 b o (ne_of_none hb hp) (e7 _ _ (e6 _ _ (e5 _ _ (e4 _ _ (e3 _ _ (e2 _ _ (e1 _ _ hb)))))))
 obtain⟨ms,e,h1,h2⟩:=Yv ns h63
 rw[e] at hv7'
 exact⟨ms,en,by walk_at "lk",h1,h2⟩
def Hy (K:PySem.W.Frag):Sp:=λvs H Q _=>∃ d l n,vs=[.ref d,.int n]/\Feed H d l/\0<=n/\n<=10/\∀ p ns H',H p=none->ExtBut d H H'->Feed H' d l->H' p=some (.lst (ns.map V.str))->NamesP ns->ns.length=n.toNat->Q (.ref p) H'
def MN (H:Hp)(d l:Addr)(n st way sz at':Int):L2.St->Hp->Prop:=fun σ' H'=>∃ p ns x8 x9,σ'=[some (V.ref d),some (.int n),some (.str LL),some (.int st),some (.int way),some (.int (1+sz)),some (.int at'),some (.ref p),x8,x9,none]/\H p=none/\ExtBut d H H'/\Feed H' d l/\H' p=some (.lst (ns.map V.str))/\NamesP ns/\ns.length=10
theorem R3 {f:Addr}{fd:FuncData}(F:Fun K "_law_names" "_law_names" Dq f fd)(T:Fp mg)(Ak:Fnd P w K mg base 1 "_law_draw" ["_law_feed_here","_law_many"] (Fg K)):FnOk P w K mg base CX0 2 f fd ["_law_feed_here","_law_many"] (Hy K):=by
 refine F.ok As (λvs H Q E h=>?_) (λcdv A outer s H vs Q E hr h=>?_)
 . obtain⟨d,l,n,rfl,_⟩:=h
   rfl
 obtain⟨d,l,n,rfl,hF,hn0,hn1,k⟩:=h
 have hu:=Cc hr
 have hq:=Cd hr
 with_reducible refine⟨_,(A5 (Al (i:=2) As.nd ⋯ (by with_unfolding_all exact Or.inr rfl) (B3 Fy Ab A9))
  (A5 (Al (i:=3) As.nd ⋯ (by with_unfolding_all exact Or.inr rfl) (Bo Ak (hr.mono ∅) ⋯ (A3 (pv 0) (A3 A9 A4))))
  (A5 (Al (i:=4) As.nd ⋯ (by eq_refl) (Bo Ak (hr.mono ∅) ⋯ (A3 (pv 0) (A3 A9 A4))))
  (A5 (Al (i:=5) As.nd ⋯ (by eq_refl) (B3 (Aw (K:=K)) A9 (Bo Ak (hr.mono ∅) ⋯ (A3 (pv 0) (A3 A9 A4)))))
  (A5 (Al (i:=6) As.nd ⋯ (by eq_refl) (Bo Ak (hr.mono ∅) ⋯ (A3 (pv 0) (A3 (pv 5) A4))))
  (A5 (Al (i:=7) As.nd ⋯ (by eq_refl) (Bz (A3 Ab (A3 Ab (A3 Ab (A3 Ab (A3 Ab (A3 Ab (A3 Ab (A3 Ab (A3 Ab (A3 Ab A4))))))))))))
  (A5 (Bc (Ai (B5 (K:=K) hq) (pv 4) A9 (An _)) (A7 (Al (i:=7) As.nd ⋯ (by eq_refl) (B3 (Aw (K:=K)) (Eu ["_law_k"] ["_law_letters","_law_start"] [2,3] ⋯ ⋯ ⋯ (Kk ⋯ T.b_range (A3 A9 A4)) (λ_ _ _ _=>(B4 (i:=0) (by with_unfolding_all (show(["_law_k","_law_letters","_law_start"]:List Str).Nodup;decide +kernel)) ⋯ (by eq_refl))) (Ed ∅) (λ_ _ _ _=>G2) (λ_ _ _ _=>(Fr (a81 (K:=K)) (pv 1) (Em (pv 2)) (Em (B3 (Aw (K:=K)) (B3 (Aw (K:=K)) (pv 2) A9) (pv 0)))))) (Bz (A3 (Af (A8 (K:=K) hu) (pv 2) (B3 (Aw (K:=K)) (pv 3) A9) (by ac_rfl)) (A3 (Af (A8 (K:=K) hu) (pv 2) (B3 (Aw (K:=K)) (pv 3) A9) (by ac_rfl)) A4)))))) Am)
  (A5 (Bc (Ai (B5 (K:=K) hq) (pv 4) A9 (An _)) (A5 (Al (i:=8) As.nd ⋯ (by with_unfolding_all exact Or.inr rfl) (Fr (a81 (K:=K)) (pv 2) (Em (pv 3)) (Em (B3 (Aw (K:=K)) (pv 3) (pv 6)))))
  (A5 (Al (i:=9) As.nd ⋯ (by with_unfolding_all exact Or.inr rfl) (Fr (a81 (K:=K)) (pv 2) (Em (B3 (Aw (K:=K)) (B3 (Aw (K:=K)) (pv 3) (pv 6)) A9)) (Em (B3 (Aw (K:=K)) (pv 3) (pv 5)))))
  (A7 (Qd (i:=7) ["_law_k"] ["_law_head","_law_letters","_law_start","_law_tail"] [8,2,3,9] ⋯ ⋯ ⋯ As.nd ⋯ ⋯ (Kk ⋯ T.b_range (A3 A9 A4)) (λ_ _ _ _=>(B4 (i:=0) (by with_unfolding_all (show(["_law_k","_law_head","_law_letters","_law_start","_law_tail"]:List Str).Nodup;decide +kernel)) ⋯ (by eq_refl))) (Ed ∅) (λ_ _ _ _=>G2) (λ_ _ _ _=>(B3 (Aw (K:=K)) (B3 (Aw (K:=K)) (pv 1) (Af (A8 (K:=K) hu) (pv 2) (B3 (Aw (K:=K)) (pv 3) (B3 Lm (B3 Fy A9 (pv 0)) A9)) (by ac_rfl))) (pv 4))))))) Am)
  (A5 (Bc (Ai (B5 (K:=K) hq) (pv 4) A9 (An _)) (A7 (Qd (i:=7) ["_law_k"] ["_law_letters","_law_start"] [2,3] ⋯ ⋯ ⋯ As.nd ⋯ ⋯ (Kk ⋯ T.b_range (A3 A9 A4)) (λ_ _ _ _=>(B4 (i:=0) (by with_unfolding_all (show(["_law_k","_law_letters","_law_start"]:List Str).Nodup;decide +kernel)) ⋯ (by eq_refl))) (Ed ∅) (λ_ _ _ _=>G2) (λ_ _ _ _=>(Fr (a81 (K:=K)) (pv 1) (Em (B3 (Aw (K:=K)) (pv 2) (pv 0))) (Em (B3 (Aw (K:=K)) (B3 (Aw (K:=K)) (B3 (Aw (K:=K)) (pv 2) (pv 0)) A9) (B3 Lm (B3 Fy A9 (pv 0)) A9))))))) Am)
  (A5 (Al (i:=10) As.nd ⋯ (by eq_refl) (Bo Ak (hr.mono ∅) ⋯ (A3 (pv 0) (A3 A9 A4))))
  (A5 (Al (i:=7) As.nd ⋯ (by eq_refl) (B3 (Aw (K:=K)) (Fr (a81 (K:=K)) (pv 7) (Em (pv 10)) Mh) (Fr (a81 (K:=K)) (pv 7) Mh (Em (pv 10)))))
  (A7 (Ap (Iy (Fr (a81 (K:=K)) (pv 7) Mh (Em (pv 1))) (Af (A8 (K:=K) hu) (Bz (A3 A9 (A3 (aa4 Vr A9) A4))) (Bo Ak (hr.mono ∅) ⋯ (A3 (pv 0) (A3 A9 A4))) (by ac_rfl)))))))))))))))),?_⟩
 symm
 refine aj2 ∅ ?_
 rw[at8]
 symm
 refine⟨d,l,_,rfl,hF,by omega,by omega,λst H1 hs0 hs1 e1 hF1=>?_⟩
 symm
 refine⟨d,l,_,rfl,hF1,by omega,by omega,λway H2 hw0 hw1 e2 hF2=>?_⟩
 symm
 refine⟨d,l,_,rfl,hF2,by omega,by omega,λsz H3 hz0 hz1 e3 hF3=>?_⟩
 symm
 refine⟨d,l,_,rfl,hF3,by omega,by omega,λat' H4 ha0 ha1 e4 hF4=>?_⟩
 symm
 refine B7 ∅ λp5 H5 hp5 e5 h5=>?_
 walk_at "rq"
 have fr4:ExtBut d H H4:=by walk_at "fr"
 have hF5:Feed H5 d l:=by walk_at "fd"
 with_reducible refine Ws (MN H d l n st way sz at') (λN hN=>?_) (fun σ1 H6 hM=>?_)
 . walk_at "rq"
   refine Fh (λhw=>?_) (λhw=>?_)
   . walk_at "rq"
     refine Vu (by omega) ?_
     refine M4 Hg (fI λk=>.str (Txt.slice LL (some st) (some (st+1+k)))) nofun (λ_ _=>trivial) (λi x H6 R hx e6 hR=>?_) (λp6 H6 hp6 e6 h6=>?_)
     . obtain⟨rfl,hi⟩:=Mf hx
       walk_at "rq"
       exact hR
     rw[Tz (G:=λk=>txt (On st.toNat (st.toNat+1+k))) (λk hk=>by
      have e:=Vm (i:=st) (j:=st+1+(0+(k:Int))) hs0 (by omega) (by have:((8:Int)).toNat=8:=rfl;omega)
      have e2:(st+1+(0+(k:Int))).toNat=st.toNat+1+k:=by omega
      rw[e2] at e
      rw[e])] at h6
     obtain⟨c9,hc9,e9⟩:=ao7 (i:=st+9) (by omega) (by omega)
     obtain⟨c10,hc10,e10⟩:=ao7 (i:=st+10) (by omega) (by omega)
     walk_at "rq"
     refine ao8 Ue hc9 ?_
     walk_at "rq"
     refine ao8 Ue hc10 ?_
     walk_at "rq"
     refine B7 (Aa nofun) λp7 H7 hp7 e7 h7=>?_
     refine Qa (by walk_at "lk") h7 (by simp[sizeLine_eq]) λp8 H8 hp8 e8 h8=>?_
     walk_at "rq"
     have f5:ExtBut d H H5:=by walk_at "fr"
     refine hN _ _ ⟨p8,(nm0 st.toNat).map txt,none,none,rfl,Feed.free (l:=l) (H':=H7) (by walk_at "fd") (by walk_at "fr") hp8,by walk_at "fr",by walk_at "fd",?_,an9 (by omega),by simp[nm0]⟩
     rw[h8,e9,e10]
     have q9:(st+9).toNat=st.toNat+9:=by omega
     have q10:(st+10).toNat=st.toNat+10:=by omega
     rw[q9,q10]
     simp[nm0,Function.comp_def]
   walk_at "rq"
   refine hN _ _ ⟨p5,nm3,none,none,rfl,hF4.free fr4 hp5,by walk_at "fr",hF5,h5,aj8,rfl⟩
 obtain⟨p,ns,x8,x9,rfl,hp,e6,hF6,h6,hN6,hl6⟩:=hM
 with_reducible refine Ws (MN H d l n st way sz at') (λN hN=>?_) (fun σ1 H7 hM=>?_)
 . walk_at "rq"
   refine Fh (λhw=>?_) (λhw=>?_)
   . walk_at "rq"
     refine Vu (by omega) ?_
     have c1:=Vm (i:=st) (j:=st+at') hs0 (by omega) (by omega)
     have c2:=Vm (i:=st+at'+1) (j:=st+(1+sz)) (by omega) (by omega) (by omega)
     rw[c1,c2]
     refine M4 Hg (fI λk=>.str (txt (On st.toNat (st+at').toNat)++txt (Rq (st+5*k % 26).toNat)++txt (On (st+at'+1).toNat (st+(1+sz)).toNat))) nofun (λ_ _=>trivial) (λi x H8 R hx e8 hR=>?_) (λp8 H8 hp8 e8 h8=>?_)
     . obtain⟨rfl,hi⟩:=Mf hx
       have hm0:=A3L (5*(0+(i:Int))) (show(26:Int)≠0 by decide)
       have hm1:=A33 (5*(0+(i:Int))) (show(0:Int)<26 by decide)
       obtain⟨c,hc,ec⟩:=ao7 (i:=st+5*(0+(i:Int)) % 26) (by omega) (by omega)
       walk_at "rq"
       refine ao8 Ue hc ?_
       rw[ec]
       have l1:(txt (On st.toNat (st+at').toNat)).length<=52:=by show(On _ _).toArray.size<=_;unfold On;simp[L8];omega
       have l2:(txt (On (st+at'+1).toNat (st+(1+sz)).toNat)).length<=52:=by show(On _ _).toArray.size<=_;unfold On;simp[L8];omega
       have l3:(txt (Rq (st+5*(0+(i:Int)) % 26).toNat)).length<=52:=by show(Rq _).toArray.size<=_;unfold Rq;simp[L8];omega
       refine i_addS (Aa (by omega)) ?_
       have l4:(txt (On st.toNat (st+at').toNat)++txt (Rq (st+5*(0+(i:Int)) % 26).toNat)).length<=104:=by rw[Str.length_append];omega
       walk_at "rq"
       exact hR
     rw[Tz (G:=λk=>txt (On st.toNat (st.toNat+at'.toNat)++Rq (st.toNat+5*k % 26)++On (st.toNat+at'.toNat+1) (st.toNat+(1+sz).toNat))) (λk hk=>by
      have q1:(st+at').toNat=st.toNat+at'.toNat:=by omega
      have q2:(st+5*(0+(k:Int)) % 26).toNat=st.toNat+5*k % 26:=by omega
      have q3:(st+at'+1).toNat=st.toNat+at'.toNat+1:=by omega
      have q4:(st+(1+sz)).toNat=st.toNat+(1+sz).toNat:=by omega
      rw[q1,q2,q3,q4,Yd,Yd])] at h8
     walk_at "rq"
     refine hN _ _ ⟨p8,(nm1 st.toNat (1+sz).toNat at'.toNat).map txt,_,_,rfl,hF6.free e6 hp8,by walk_at "fr",by walk_at "fd",?_,aq0 (by omega) (by omega) (by omega),by simp[nm1]⟩
     rw[h8]
     simp[nm1,Function.comp_def]
   walk_at "rq"
   exact hN _ _ ⟨p,ns,x8,x9,rfl,hp,e6,hF6,h6,hN6,hl6⟩
 obtain⟨p',ns',x8',x9',rfl,hp',e7,hF7,h7,hN7,hl7⟩:=hM
 with_reducible refine Ws (MN H d l n st way sz at') (λN hN=>?_) (fun σ1 H8 hM=>?_)
 . walk_at "rq"
   refine Fh (λhw=>?_) (λhw=>?_)
   . walk_at "rq"
     refine Vu (by omega) ?_
     refine M4 Hg (fI λk=>.str (Txt.slice LL (some (st+k)) (some (st+k+1+3*k % 8)))) nofun (λ_ _=>trivial) (λi x H8 R hx e8 hR=>?_) (λp8 H8 hp8 e8 h8=>?_)
     . obtain⟨rfl,hi⟩:=Mf hx
       walk_at "rq"
       exact hR
     rw[Tz (G:=λk=>txt (On (st.toNat+k) (st.toNat+k+1+3*k % 8))) (λk hk=>by
      have h10:((10:Int)).toNat=10:=rfl
      have e:=Vm (i:=st+(0+(k:Int))) (j:=st+(0+(k:Int))+1+3*(0+(k:Int)) % 8) (by omega) (by omega) (by omega)
      have q1:(st+(0+(k:Int))).toNat=st.toNat+k:=by omega
      have q2:(st+(0+(k:Int))+1+3*(0+(k:Int)) % 8).toNat=st.toNat+k+1+3*k % 8:=by omega
      rw[q1,q2] at e
      rw[e])] at h8
     walk_at "rq"
     refine hN _ _ ⟨p8,(nm2 st.toNat).map txt,_,_,rfl,hF7.free e7 hp8,by walk_at "fr",by walk_at "fd",?_,ap0 (by omega),by simp[nm2]⟩
     rw[h8]
     simp[nm2,Function.comp_def]
   walk_at "rq"
   exact hN _ _ ⟨p',ns',x8',x9',rfl,hp',e7,hF7,h7,hN7,hl7⟩
 obtain⟨p2,ms,y8,y9,rfl,hp2,e8,hF8,h8,hN8,hl8⟩:=hM
 symm
 refine⟨d,l,_,rfl,hF8,by omega,by omega,λtn H9 ht0 ht1 e9 hF9=>?_⟩
 have nd2:p2≠d:=hF8.lst h8
 symm
 have h9:H9 p2=some (.lst (ms.map V.str)):=e9 _ _ nd2 h8
 refine Ys (SqL.of h9) λq1 H10 hq1 e10 h10=>?_
 symm
 refine Ys (SqL.of (show H10 p2=some (.lst (ms.map V.str)) by walk_at "lk")) λq2 H11 hq2 e11 h11=>?_
 symm
 rw[Vt ht0 (by rw[A00];omega)] at h10
 rw[Wc ht0] at h11
 refine Qa (by walk_at "lk") h11 (Aa (by simp;omega)) λq3 H12 hq3 e12 h12=>?_
 symm
 rw[<- List.map_drop,<- List.map_take,<- A0G] at h12
 refine Ys (SqL.of h12) λq4 H13 hq4 e13 h13=>?_
 symm
 rw[Wc hn0,<- List.map_take] at h13
 refine B7 ∅ λq5 H14 hq5 e14 h14=>?_
 symm
 refine⟨d,l,2,rfl,by walk_at "fd",by omega,by omega,λr H15 hr0 hr1 e15 hF15=>?_⟩
 have hq5d:q5≠d:=Ne.symm (Feed.nd (H:=H13) (l:=l) (by walk_at "fd") hq5)
 have hq4d:q4≠d:=Ne.symm (Feed.nd (H:=H12) (l:=l) (by walk_at "fd") hq4)
 have h15:H15 q4=some (.lst (((ms.drop tn.toNat++ms.take tn.toNat).take n.toNat).map V.str)):=e15 _ _ hq4d (by walk_at "lk")
 have g15:H15 q5=some (.lst [V.int 1,V.int (-1)]):=e15 _ _ hq5d h14
 have hstep:∃ k,atI [V.int 1,V.int (-1)] r=some (V.int k)/\(k=1\/k = -1):=by
  rcases(by omega:r=0\/r=1) with rfl | rfl
  . exact⟨1,rfl,.inl rfl⟩
  exact⟨-1,rfl,.inr rfl⟩
 obtain⟨kk,hk1,hk2⟩:=hstep
 refine Eh g15 hk1 ?_
 refine Qg (SqL.of h15) hk2 λq6 H16 hq6 e16 h16=>?_
 obtain⟨os,eo,ho1,ho2⟩:=Mm (k:=kk) (hN8.turn tn.toNat n.toNat)
 rw[eo] at h16
 have fr15:ExtBut d H H15:=by walk_at "fr"
 refine k q6 os H16 (hF15.free fr15 hq6) (by walk_at "fr") (by walk_at "fd") h16 ho1 ?_
 rw[ho2,A16,A0H,A2U,A16]
 omega
local macro_rules | `(tactic| walk_at "rq1") => `(tactic| with_reducible first | refine aA7 ?_ | refine aj3 ?_ | refine ak1 ?_ | refine aq1 ?_)
theorem ah1 {ws:List V}{a:Str}(h:ws.length=[a].length):∃ v,ws=[v]:=by
 match ws,h with
 | [v],_=>exact⟨v,rfl⟩
theorem aI4 {ws:List V}{a b:Str}(h:ws.length=[a,b].length):∃ v u,ws=[v,u]:=by
 match ws,h with
 | [v,u],_=>exact⟨v,u,rfl⟩
theorem R4 {f:Addr}{fd:FuncData}(F:Fun K "__init__" "Clash.__init__" Ds f fd)(T:Fp mg){C_HalfError:Addr}{C_Clash:Addr}(x_HalfError:Ao K mg C_HalfError C_HalfError)(x_Clash:Im K mg C_Clash C_HalfError):FnOk P w K mg base CX0 1 f fd ["self","way"] (spX C_Clash ["way"]):=by
 refine F.ok Qn (λvs H Q E h=>?_) (λcdv A outer s H vs Q E hr h=>?_)
 . obtain⟨a,ws,rfl,hl,_⟩:=h
   obtain⟨v,rfl⟩:=ah1 hl
   rfl
 obtain⟨a,ws,rfl,hl,ha,k⟩:=h
 obtain⟨v,rfl⟩:=ah1 hl
 with_reducible refine⟨_,(A7 (Jh (K:=K) (pv 0) (pv 1) ⋯)),?_⟩
 symm
 refine Sw ha x_Clash.xc x_Clash.n_way λdx H1 h1 h2 h3 h4 h5=>?_
 symm
 exact k dx H1 h1 h2 h3 h4 h5
theorem Ou {f:Addr}{fd:FuncData}(F:Fun K "__init__" "NoName.__init__" Dh f fd)(T:Fp mg){C_HalfError:Addr}{C_NoName:Addr}(x_HalfError:Ao K mg C_HalfError C_HalfError)(x_NoName:Bv K mg C_NoName C_HalfError):FnOk P w K mg base CX0 1 f fd ["self","name"] (spX C_NoName ["name"]):=by
 refine F.ok Pe (λvs H Q E h=>?_) (λcdv A outer s H vs Q E hr h=>?_)
 . obtain⟨a,ws,rfl,hl,_⟩:=h
   obtain⟨v,rfl⟩:=ah1 hl
   rfl
 obtain⟨a,ws,rfl,hl,ha,k⟩:=h
 obtain⟨v,rfl⟩:=ah1 hl
 with_reducible refine⟨_,(A7 (Jh (K:=K) (pv 0) (pv 1) ⋯)),?_⟩
 symm
 refine Sw ha x_NoName.xc x_NoName.n_name λdx H1 h1 h2 h3 h4 h5=>?_
 symm
 exact k dx H1 h1 h2 h3 h4 h5
theorem Lq {f:Addr}{fd:FuncData}(F:Fun K "__init__" "NoSaying.__init__" C6 f fd)(T:Fp mg){C_HalfError:Addr}{C_NoSaying:Addr}(x_HalfError:Ao K mg C_HalfError C_HalfError)(x_NoSaying:Dv K mg C_NoSaying C_HalfError):FnOk P w K mg base CX0 1 f fd ["self","number"] (spX C_NoSaying ["number"]):=by
 refine F.ok Lv (λvs H Q E h=>?_) (λcdv A outer s H vs Q E hr h=>?_)
 . obtain⟨a,ws,rfl,hl,_⟩:=h
   obtain⟨v,rfl⟩:=ah1 hl
   rfl
 obtain⟨a,ws,rfl,hl,ha,k⟩:=h
 obtain⟨v,rfl⟩:=ah1 hl
 with_reducible refine⟨_,(A7 (Jh (K:=K) (pv 0) (pv 1) ⋯)),?_⟩
 symm
 refine Sw ha x_NoSaying.xc x_NoSaying.n_number λdx H1 h1 h2 h3 h4 h5=>?_
 symm
 exact k dx H1 h1 h2 h3 h4 h5
theorem Mx {f:Addr}{fd:FuncData}(F:Fun K "__init__" "TooMany.__init__" Cn f fd)(T:Fp mg){C_HalfError:Addr}{C_TooMany:Addr}(x_HalfError:Ao K mg C_HalfError C_HalfError)(x_TooMany:Ge K mg C_TooMany C_HalfError):FnOk P w K mg base CX0 1 f fd ["self","word"] (spX C_TooMany ["word"]):=by
 refine F.ok Mj (λvs H Q E h=>?_) (λcdv A outer s H vs Q E hr h=>?_)
 . obtain⟨a,ws,rfl,hl,_⟩:=h
   obtain⟨v,rfl⟩:=ah1 hl
   rfl
 obtain⟨a,ws,rfl,hl,ha,k⟩:=h
 obtain⟨v,rfl⟩:=ah1 hl
 with_reducible refine⟨_,(A7 (Jh (K:=K) (pv 0) (pv 1) ⋯)),?_⟩
 symm
 refine Sw ha x_TooMany.xc x_TooMany.n_word λdx H1 h1 h2 h3 h4 h5=>?_
 symm
 exact k dx H1 h1 h2 h3 h4 h5
theorem Pf {f:Addr}{fd:FuncData}(F:Fun K "__init__" "NoHalf.__init__" Cs f fd)(T:Fp mg){C_HalfError:Addr}{C_NoHalf:Addr}(x_HalfError:Ao K mg C_HalfError C_HalfError)(x_NoHalf:L9 K mg C_NoHalf C_HalfError):FnOk P w K mg base CX0 1 f fd ["self","word","number"] (spX C_NoHalf ["word","number"]):=by
 refine F.ok Os (λvs H Q E h=>?_) (λcdv A outer s H vs Q E hr h=>?_)
 . obtain⟨a,ws,rfl,hl,_⟩:=h
   obtain⟨v,u,rfl⟩:=aI4 hl
   rfl
 obtain⟨a,ws,rfl,hl,ha,k⟩:=h
 obtain⟨v,u,rfl⟩:=aI4 hl
 with_reducible refine⟨_,(A5 (Jh (K:=K) (pv 0) (pv 1) ⋯)
  (A7 (Jh (K:=K) (pv 0) (pv 2) ⋯))),?_⟩
 symm
 refine Sw ha x_NoHalf.xc x_NoHalf.n_word λdx H1 h1 h2 h3 h4 h5=>?_
 symm
 refine ax9 h4 h5 x_NoHalf.xc x_NoHalf.n_number nofun λH2 g1 g2=>?_
 symm
 exact k dx H2 h1 h2 (λb b1 b2=>(g1 b b2).trans (h3 b b1 b2)) ((g1 a (Ne.symm h2)).trans h4) g2
def OkP (ps:List (Str×Str)):Prop:=∀ p∈ps,PyData.strOk p.1=true/\PyData.strOk p.2=true
def Go (K:PySem.W.Frag):Sp:=λvs H Q _=>∃ v x ns ps,vs=[v,.str x]/\Is K H (hfD ns ps) v/\ps.length<=1000/\OkP ps/\PyData.strOk x=true/\∀ p (fs:List Str) H',H p=none->Same H H'->H' p=some (.lst (fs.map V.str))->fs.Nodup->(∀ y,y∈fs↔Way ps x y)->Q (.ref p) H'
structure BhI (ps:List (Str×Str))(x:Str)(fs ls:List Str):Prop where
 nd:fs.Nodup
 way:∀ y∈fs,Way ps x y
 line:∀ z∈ls,z=x\/z∈fs
 shut:∀ z,z=x\/z∈fs->z∉ls->∀ y,(z,y)∈ps->y∈fs
 few:ls.length<=fs.length+1
theorem BhI.le {ps:List (Str×Str)}{x:Str}{fs ls:List Str}(h:BhI ps x fs ls):fs.length<=ps.length:=by
 have:=Cr (ys:=ps.map (·.2)) h.nd λy hy=>(h.way y hy).right
 rwa[A00] at this
structure BhJ (ps:List (Str×Str))(x here:Str)(fs ls gs ms:List Str)(i:Nat):Prop where
 nd:gs.Nodup
 way:∀ y∈gs,Way ps x y
 line:∀ z∈ms,z=x\/z∈gs
 keep:∀ z∈fs,z∈gs
 keepL:∀ z∈ls,z∈ms
 new:∀ z∈gs,z∈fs\/z∈ms
 seen:∀ j<i,∀ y,ps[j]? = some (here,y)->y∈gs
 len:gs.length+ls.length=fs.length+ms.length
theorem BhJ.le {ps:List (Str×Str)}{x here:Str}{fs ls gs ms:List Str}{i:Nat}(h:BhJ ps x here fs ls gs ms i):gs.length<=ps.length:=by
 have:=Cr (ys:=ps.map (·.2)) h.nd λy hy=>(h.way y hy).right
 rwa[A00] at this
theorem BhJ.step {ps:List (Str×Str)}{x here:Str}{fs ls gs ms:List Str}{i:Nat}{p:Str×Str}(h:BhJ ps x here fs ls gs ms i)(hw:here=x\/Way ps x here)(hp:ps[i]? = some p)(h1:p.1=here)(h2:p.2∉gs):BhJ ps x here fs ls (gs++[p.2]) (ms++[p.2]) (i+1):=by
 have hm:(here,p.2)∈ps:=by rw[<- h1];exact A04 hp
 refine⟨?_,λy hy=>?_,λz hz=>?_,λz hz=>A0T _ (h.keep z hz),λz hz=>A0T _ (h.keepL z hz),λz hz=>?_,λj hj y e=>?_,?_⟩
 . rw[A2P]
   refine⟨h.nd,by simp,λa ha b hb=>?_⟩
   have:b=p.2:=by simpa using hb
   subst this
   intro e
   subst e
   exact h2 ha
 . rcases A0B.mp hy with hy | hy
   . exact h.way y hy
   have:y=p.2:=by simpa using hy
   subst this
   rcases hw with rfl | hw
   . exact .one hm
   exact hw.snoc hm
 . rcases A0B.mp hz with hz | hz
   . rcases h.line z hz with e | e
     . exact .inl e
     exact .inr (A0T _ e)
   exact .inr (A0M _ hz)
 . rcases A0B.mp hz with hz | hz
   . rcases h.new z hz with e | e
     . exact .inl e
     exact .inr (A0T _ e)
   exact .inr (A0M _ hz)
 . by_cases hji:j=i
   . subst hji
     rw[hp] at e
     cases e
     exact A0M _ nofun
   exact A0T _ (h.seen j (by omega) y e)
 rw[A0H,A0H,A18]
 have:=h.len
 omega
theorem BhJ.skip {ps:List (Str×Str)}{x here:Str}{fs ls gs ms:List Str}{i:Nat}{p:Str×Str}(h:BhJ ps x here fs ls gs ms i)(hp:ps[i]? = some p)(h1:p.1=here->p.2∈gs):BhJ ps x here fs ls gs ms (i+1):=by
 refine⟨h.nd,h.way,h.line,h.keep,h.keepL,h.new,λj hj y e=>?_,h.len⟩
 by_cases hji:j=i
 . subst hji
   rw[hp] at e
   cases e
   exact h1 rfl
 exact h.seen j (by omega) y e
theorem BhJ.done {ps:List (Str×Str)}{x here:Str}{fs ls gs ms:List Str}(I:BhI ps x fs (ls++[here]))(h:BhJ ps x here fs ls gs ms ps.length):BhI ps x gs ms:=by
 refine⟨h.nd,h.way,h.line,λz hz hm y hy=>?_,?_⟩
 . by_cases e:z=here
   . subst e
     obtain⟨j,hj,ej⟩:=A2B hy
     exact h.seen j hj y (by rw[A08 hj,ej])
   have hz':z=x\/z∈fs:=by
    rcases hz with hz | hz
    . exact .inl hz
    rcases h.new z hz with q | q
    . exact .inr q
    exact absurd q hm
   refine h.keep y (I.shut z hz' (λq=>?_) y hy)
   rcases A0B.mp q with q | q
   . exact hm (h.keepL z q)
   exact e (by simpa using q)
 have:=h.len
 have:=I.few
 rw[A0H,A18] at this
 omega
theorem Oo {f:Addr}{fd:FuncData}(F:Fun K "_law_behind" "_law_behind" Df f fd)(T:Fp mg):FnOk P w K mg base CX0 1 f fd ["_law_half","_law_name"] (Go K):=by
 refine F.ok Cf (λvs H Q E h=>?_) (λcdv A outer s H vs Q E hr h=>?_)
 . obtain⟨v,x,ns,ps,rfl,_⟩:=h
   rfl
 obtain⟨v,x,ns,ps,rfl,hI,hl,hok,hx,k⟩:=h
 have hu:=Cc hr
 have hq:=Cd hr
 with_reducible refine⟨_,(A5 (Al (i:=2) Cf.nd ⋯ (by eq_refl) (Bz A4))
  (A5 (Al (i:=3) Cf.nd ⋯ (by eq_refl) (Bz (A3 (pv 1) A4)))
  (A5 (Wn A1C (Ai (Lk (K:=K) hq) (pv 3) (Bz A4) (An _))
  (A5 (Al (i:=4) Cf.nd ⋯ (by eq_refl) (L0 (K:=K) A0F A2K A2L (mm Wa) (pv 3)))
  (A7 (Hi A1C ⋯ (Bs (K:=K) hu (Af (A8 (K:=K) hu) (pv 0) A9 (by ac_rfl))) (Uh (K:=K) (n:=2) ⋯ (Jg (B4 (i:=5) Cf.nd ⋯ (by eq_refl)) (Jg (B4 (i:=6) Cf.nd ⋯ (by eq_refl)) Ul)))
  (A7 (Bc (PW.pt (To (Ai (B5 (K:=K) hq) (pv 5) (pv 4) (An _)) (Rp (Ai (Ga (K:=K) hq) (pv 6) (pv 2) ⋯)))) (A5 (Bf (Ff (K:=K) A0F A0O A0P (mm Bg) (pv 2) (A3 (pv 6) A4)))
  (A7 (Bf (Ff (K:=K) A0F A0O A0P (mm Bg) (pv 3) (A3 (pv 6) A4))))) Am))))))
  (A7 (Ap (pv 2)))))),?_⟩
 symm
 refine B7 ∅ λp H1 hp1 e1 h1=>?_
 symm
 refine B7 (Aa nofun) λq H2 hq2 e2 h2=>?_
 symm
 have hpq:p≠q:=ne_of_none h1 hq2
 have hq0:H q=none:=e1.free hq2
 have okn:∀ y,y=x\/Way ps x y->PyData.strOk y=true:=λy hy=>by
  rcases hy with rfl | hy
  . exact hx
  obtain⟨pr,hpr,e⟩:=A0I.mp hy.right
  exact e ▸ (hok pr hpr).2
 refine Ya (λm σ H3=>∃ fs ls x4 x5 x6,σ=[some v,some (.str x),some (.ref p),some (.ref q),x4,x5,x6]/\Same H H3/\H3 p=some (.lst (fs.map V.str))/\H3 q=some (.lst (ls.map V.str))/\BhI ps x fs ls/\m=2*(ps.length-fs.length)+ls.length)
  (2*(ps.length-([]:List Str).length)+[x].length) ⟨[],[x],_,_,_,rfl,by walk_at "sm",by walk_at "lk",h2,⟨by simp,λ_ h=>(by cases h),λz hz=>.inl (by simpa using hz),λz hz hn=>(by
   rcases hz with rfl | hz
   . exact absurd nofun hn
   cases hz),by simp⟩,rfl⟩ λm σ H3 hP=>?_
 obtain⟨fs,ls,x4,x5,x6,rfl,e3,h3p,h3q,hB,rfl⟩:=hP
 symm
 refine B7 ∅ λt H4 ht4 e4 h4=>?_
 refine at2 (dx:=.list (ls.map PyData.str)) (dy:=.list []) (Is.of_lst (SqL.of (e4 _ _ h3q)) (Qm ls)) (Is.of_lst (SqL.of h4) .nil) (ad8 λz hz=>?_) (by rfl) ?_
 . refine okn z ?_
   rcases hB.line z hz with e | e
   . exact .inl e
   exact .inr (hB.way z e)
 rw[Sq]
 symm
 refine aC0 (λhE=>?_) (λhE=>?_)
 . have hne:ls≠[]:=by
    intro e
    subst e
    cases hE
   obtain⟨ls',here,rfl⟩:∃ ls' here,ls=ls'++[here]:=⟨ls.dropLast,ls.getLast hne,(List.dropLast_concat_getLast hne).symm⟩
   refine ag5 ?_
   symm
   have h4p:H4 p=some (.lst (fs.map V.str)):=e4 _ _ h3p
   have h4q:H4 q=some (.lst (ls'.map V.str++[V.str here])):=by rw[e4 _ _ h3q,A0G];rfl
   refine Sj h4q λH5 e5 h5q=>?_
   symm
   have h5p:H5 p=some (.lst (fs.map V.str)):=e5 _ _ hpq h4p
   have e05:Same H H5:=by walk_at "sm"
   refine Yc (hI.hf_fz e05.fz) λu hI5=>?_
   have hle:=hB.le
   have hfew:=hB.few
   rw[A0H,A18] at hfew
   refine ai3 hI5 (λi σ H6=>∃ gs ms x5 x6,σ=[some v,some (.str x),some (.ref p),some (.ref q),some (.str here),x5,x6]/\Same H H6/\Fz H5 H6/\H6 p=some (.lst (gs.map V.str))/\H6 q=some (.lst (ms.map V.str))/\BhJ ps x here fs ls' gs ms i)
    ⟨fs,ls',_,_,rfl,e05,.refl _,h5p,h5q,⟨hB.nd,hB.way,λz hz=>hB.line z (A0T _ hz),λ_ h=>h,λ_ h=>h,λ_ h=>.inl h,λj hj=>absurd hj (Nat.not_lt_zero _),rfl⟩⟩ (λi σ' H' hP=>?_) (λi pr w σ' H6 hpr hIp hP=>?_) (fun σ' H6 hP=>?_)
   . obtain⟨_,_,_,_,_,_,fz,_⟩:=hP
     exact fz
   . obtain⟨gs,ms,x5',x6',rfl,e6,fz6,h6p,h6q,hJ⟩:=hP
     have hgl:=hJ.le
     have hml:=hJ.len
     refine ao1 hIp ?_
     symm
     refine Fh (λh1=>?_) (λh1=>?_)
     . have h1':pr.1=here:=by injection h1
       symm
       refine an5 (SqL.of h6p) ?_
       symm
       refine Wz (λh2=>?_) (λh2=>?_)
       . symm
         refine Fo h6p (by rw[A00];omega) λH7 e7 h7p=>?_
         symm
         have h7q:H7 q=some (.lst (ms.map V.str)):=e7 _ _ (Ne.symm hpq) h6q
         refine Fo h7q (by rw[A00];omega) λH8 e8 h8q=>?_
         symm
         refine⟨gs++[pr.2],ms++[pr.2],_,_,rfl,by walk_at "sm",(fz6.trans (e7.fzL h6p)).trans (e8.fzL h7q),?_,?_,hJ.step ?_ hpr h1' h2⟩
         . rw[e8 _ _ hpq h7p,A0G]
           rfl
         . rw[h8q,A0G]
           rfl
         rcases hB.line here (A0M _ nofun) with e | e
         . exact .inl e
         exact .inr (hB.way _ e)
       exact⟨gs,ms,_,_,rfl,e6,fz6,h6p,h6q,hJ.skip hpr λ_=>h2⟩
     exact⟨gs,ms,_,_,rfl,e6,fz6,h6p,h6q,hJ.skip hpr λe=>absurd (by rw[e]) h1⟩
   obtain⟨gs,ms,x5',x6',rfl,e6,fz6,h6p,h6q,hJ⟩:=hP
   have hgl:=hJ.le
   have hml:=hJ.len
   have hge:=Cr hB.nd hJ.keep
   refine⟨_,?_,gs,ms,_,_,_,rfl,e6,h6p,h6q,BhJ.done hB hJ,rfl⟩
   rw[A0H,A18]
   omega
 have hn:ls=[]:=by
  cases ls with
  | nil=>rfl
  | cons _ _=>cases hE
 subst hn
 symm
 refine k p fs H4 hp1 (by walk_at "sm") (e4 _ _ h3p) hB.nd λy=>⟨hB.way y,λg=>?_⟩
 exact Way.shut (S:=λy=>y∈fs) (λy hy=>hB.shut x (.inl rfl) nofun y hy) (λz y hz hy=>hB.shut z (.inr hz) nofun y hy) g
def Fa (K:PySem.W.Frag):Sp:=λvs H Q _=>∃ v ns ps,vs=[v]/\Is K H (hfD ns ps) v/\R5 ns ps/\∀ r as H',H r=none->(∀ a∈as,H a=none)->Same H H'->Tab H' r ns as (Way ps)->Q (.ref r) H'
theorem Om {f:Addr}{fd:FuncData}(F:Fun K "behind_each" "behind_each" Cw f fd)(T:Fp mg):FnOk P w K mg base CX0 1 f fd ["half"] (Fa K):=by
 refine F.ok Cl (λvs H Q E h=>?_) (λcdv A outer s H vs Q E hr h=>?_)
 . obtain⟨v,ns,ps,rfl,_⟩:=h
   rfl
 obtain⟨v,ns,ps,rfl,hI,hW,k⟩:=h
 have hu:=Cc hr
 have hq:=Cd hr
 have hn:=hW.nd
 have hfew:=hW.few
 with_reducible refine⟨_,(A5 (Al (i:=1) Cl.nd ⋯ (by eq_refl) (Af (A8 (K:=K) hu) (pv 0) A9 (by ac_rfl)))
  (A5 (Al (i:=2) Cl.nd ⋯ (by eq_refl) (Ay (Wp (K:=K) hr.hd) ⋯ T.b_dict PyProof.Rows.Boot.«dict» (A3 (Eu ["name"] [] [] ⋯ ⋯ ⋯ (Bs (K:=K) hu (pv 1)) (λ_ _ _ _=>(B4 (i:=0) (by with_unfolding_all (show(["name"]:List Str).Nodup;decide +kernel)) ⋯ (by eq_refl))) (Ed ∅) (λ_ _ _ _=>G2) (λ_ _ _ _=>(B6 (A3 (pv 0) (A3 Lz A4))))) A4)))
  (A5 (Hi A1C ⋯ (Bs (K:=K) hu (Af (A8 (K:=K) hu) (pv 0) A9 (by ac_rfl))) (B4 (i:=3) Cl.nd ⋯ (by eq_refl))
  (A7 (Dn hu (Af (A8 (K:=K) hu) (pv 2) (Af (A8 (K:=K) hu) (pv 3) A9 (by ac_rfl)) (by ac_rfl)) (Af (A8 (K:=K) hu) (pv 3) A9 (by ac_rfl)) Ij ⋯)))
  (A5 (Hi A1C ⋯ (Bs (K:=K) hu (pv 1)) (B4 (i:=4) Cl.nd ⋯ (by eq_refl))
  (A7 (Hi A1C ⋯ (Bs (K:=K) hu (pv 1)) (B4 (i:=5) Cl.nd ⋯ (by eq_refl))
  (A7 (Bc (Ai (Qc (K:=K) hq) (pv 4) (Af (A8 (K:=K) hu) (pv 2) (pv 5) (by ac_rfl)) ⋯) (A7 (Bf (Ff (K:=K) A2A PySem.F.slot_dict_update PySem.F.type_dict_update (mm Xb) (Af (A8 (K:=K) hu) (pv 2) (pv 5) (by ac_rfl)) (A3 (Af (A8 (K:=K) hu) (pv 2) (pv 4) (by ac_rfl)) A4)))) Am)))))
  (A7 (Ap (pv 2))))))),?_⟩
 symm
 refine Ql hI λnv hN=>?_
 symm
 obtain⟨na,rfl,hS⟩:=hN.nm
 refine Pc hS ?_
 refine Ro (Fb (xs:=ns.map V.str)) (λp i acc H1=>Same H H1/\∃ as:List Addr,as.length=i/\as.Nodup/\(∀ a∈as,H1 a=some (.dK [])/\H a=none)/\PrsK K H1 (L3 (ns.take i) as) acc) (λp H' hp e h=>⟨e,[],rfl,by simp,λ_ h=>(by cases h),by rfl⟩) (λp i acc H1 hP=>hP.1.seqT hS) (λp i x acc H1 hp hx hi hl ha hP=>?_) λp acc H1 hp ha hl hP=>?_
 . obtain ⟨e1,as,hal,had,haf,hpr⟩:=hP
   rw[A0A] at hx
   cases hz:ns[i]? with
   | none=>rw[hz] at hx;cases hx
   | some z=>
     rw[hz] at hx
     cases hx
     have hin:i<ns.length:=(A03.mp hz).1
     symm
     refine Vk λb H2 hb2 e2 h2=>?_
     symm
     refine Az (Aa nofun) λt H3 ht3 e3 h3=>?_
     have h3p:H3 p=some (.lst acc):=e3 _ _ (e2 _ _ ha)
     refine W5 (by rw[A00];omega) hi hl h3p λH4 e4 h4=>?_
     have hbp:b≠p:=Ne.symm (ne_of_none ha hb2)
     refine⟨by walk_at "sm",as++[b],by simp[hal],?_,λa ha'=>?_,?_⟩
     . rw[A2P]
       refine⟨had,by simp,λa ha1 c hc e=>?_⟩
       have:c=b:=by simpa using hc
       subst this
       subst e
       have:=(haf _ ha1).1
       rw[hb2] at this
       cases this
     . rcases A0B.mp ha' with ha' | ha'
       . obtain⟨q1,q2⟩:=haf a ha'
         exact⟨e4 _ _ (ne_of q1 ha (by intro z;cases z)) (e3 _ _ (e2 _ _ q1)),q2⟩
       have:a=b:=by simpa using ha'
       subst this
       exact⟨e4 _ _ hbp (e3 _ _ h2),e1.free hb2⟩
     have ht:ns.take (i+1)=ns.take i++[z]:=by rw[A12,hz];rfl
     have hlen:(ns.take i).length=as.length:=by rw[A16,hal];omega
     rw[ht,Vz hlen]
     have fz4:=e4.fzL h3p
     exact PrsK.snoc (kv:=(Sum.inr z,V.ref b)) (fz4.seq (SqT.of h3)) (PrsK.fz ((e2.fz.trans e3.fz).trans fz4) hpr)
 obtain⟨e1,as,hal,had,haf,hpr⟩:=hP
 rw[A00] at hal
 rw[A00,A17] at hpr
 symm
 refine ar4 ha hpr (by unfold L3;rw[List.length_map,List.length_zip];omega) λr H2 hr2 e2 h2=>?_
 rw[T0 _ _ (Vp hn) (λ_ _ _ h=>by cases h),List.nil_append] at h2
 have hr0:H r=none:=e1.free hr2
 have hra:r∉as:=λhm=>by
  have:=(haf r hm).1
  rw[hr2] at this
  cases this
 have hT0:Tab H2 r ns as (λz y=>(z,y)∈ps.take 0):=⟨hal,had,hra,h2,λi z a hz ha'=>⟨[],e2 _ _ (haf a (List.mem_of_getElem? ha')).1,by simp,λ_ h=>(by cases h),λy=>by simp⟩⟩
 symm
 refine Yc (hI.hf_fz (by walk_at "fz")) λpv hP2=>?_
 refine ai3 hP2 (λi σ H3=>∃ x3,σ=[some v,some (.ref na),some (.ref r),x3,none,none]/\Same H H3/\Fz H2 H3/\Tab H3 r ns as (λz y=>(z,y)∈ps.take i))
  ⟨none,rfl,by walk_at "sm",.refl _,hT0⟩ (λi σ' H' hP=>hP.choose_spec.2.2.1) (λi pr w σ' H3 hpr hIp hP=>?_) (fun σ' H3 hP=>?_)
 . obtain⟨x3,rfl,e3,fz3,hT⟩:=hP
   have hpm:=hW.mem pr (A04 hpr)
   obtain⟨j,a,hj,haj⟩:=hT.at hpm.1
   obtain⟨ks,hk1,hk2,hk3,hk4⟩:=hT.row j _ a hj haj
   have hkl:ks.length<=ns.length:=Cr hk2 hk3
   symm
   refine Zb hIp ?_
   refine Qy hT hn hj haj ?_
   symm
   refine Ss hIp ?_
   refine Gz hk1 (by rw[Uu];omega) λH4 e4 h4=>?_
   rw[a08] at h4
   symm
   have ha0:H a=none:=(haf a (A04 haj)).2
   refine⟨_,rfl,by walk_at "sm",fz3.trans (e4.fzD hk1),hT.put e4 hn hj haj h4 (Qf hk2) (λy hy=>?_) (λy=>?_) (λz hz hzx y=>?_)⟩
   . rcases mem_addK.mp hy with hy | rfl
     . exact hk3 y hy
     exact hpm.2
   . rw[mem_addK,hk4,A12,hpr,A0B]
     constructor
     . rintro(h | rfl)
       . exact .inl h
       exact .inr nofun
     rintro(h | h)
     . exact .inl h
     right
     have:(pr.1,y)=pr:=by simpa using h
     rw[<- this]
   rw[A12,hpr,A0B]
   constructor
   . exact .inl
   rintro(h | h)
   . exact h
   have:(z,y)=pr:=by simpa using h
   exact absurd (by rw[<- this]) hzx
 obtain⟨x3,rfl,e3,fz3,hT⟩:=hP
 rw[A17] at hT
 have hW0:War ns ps [] (λz y=>(z,y)∈ps):=⟨λz y h=>.one h,λz y h=>h,λm hm=>by cases hm⟩
 symm
 have hN3:Is K H3 (nmD ns) (.ref na):=hN.nm_fz e3.fz
 refine Ko hN3 (λi σ H4=>∃ x4 x5 R,σ=[some v,some (.ref na),some (.ref r),x3,x4,x5]/\Same H H4/\Fz H3 H4/\Tab H4 r ns as R/\War ns ps (ns.take i) R)
  ⟨_,_,_,rfl,e3,.refl _,hT,hW0⟩ (λi σ' H' hP=>?_) (λi mid σ' H4 hmid hP=>?_) (fun σ' H4 hP=>?_)
 . obtain⟨_,_,_,_,_,fz,_⟩:=hP
   exact fz
 . obtain⟨x4,x5,R,rfl,e4,fz4,hT4,hR⟩:=hP
   obtain⟨jm,am,hjm,ham⟩:=hT4.at (A04 hmid)
   have hN4:Is K H4 (nmD ns) (.ref na):=hN3.nm_fz fz4
   symm
   refine Ko hN4 (λj σ H5=>∃ x5,σ=[some v,some (.ref na),some (.ref r),x3,some (.str mid),x5]/\Same H H5/\Fz H4 H5/\Tab H5 r ns as (ah2 R mid (ns.take j)))
    ⟨_,rfl,e4,.refl _,hT4.congr λz _ y=>⟨.inl,λh=>h.elim (λq=>q) λq=>absurd q.1 nofun⟩⟩ (λi σ' H' hP=>hP.choose_spec.2.2.1) (λj nm σ' H5 hnm hP=>?_) (fun σ' H5 hP=>?_)
   . obtain⟨x5',rfl,e5,fz5,hT5⟩:=hP
     obtain⟨jn,an,hjn,han⟩:=hT5.at (A04 hnm)
     obtain⟨ks,hk1,hk2,hk3,hk4⟩:=hT5.row jn nm an hjn han
     obtain⟨ms,hm1,hm2,hm3,hm4⟩:=hT5.row jm mid am hjm ham
     have hkl:ks.length<=ns.length:=Cr hk2 hk3
     have hml:ms.length<=ns.length:=Cr hm2 hm3
     have htj:ns.take (j+1)=ns.take j++[nm]:=by rw[A12,hnm];rfl
     have hin:mid∈ks↔R nm mid:=(hk4 mid).trans ⟨λh=>h.elim (λq=>q) λq=>q.2.1,.inl⟩
     have hmid2:∀ y,y∈ms↔R mid y:=λy=>(hm4 y).trans ⟨λh=>h.elim (λq=>q) λq=>q.2.2,.inl⟩
     have hother:∀ z∈ns,z≠nm->∀ y,ah2 R mid (ns.take j) z y↔ah2 R mid (ns.take (j+1)) z y:=λz _ hz y=>by
      unfold ah2
      rw[htj,A0B,A15]
      simp[hz]
     symm
     refine Qy hT5 hn hjn han ?_
     refine Rb hk1 ?_
     symm
     refine Fh (λhc=>?_) (λhc=>?_)
     . have hRn:=hin.mp hc
       by_cases hne:nm=mid
       . subst hne
         have hji:jn=jm:=by
          obtain⟨p1,p2⟩:=A03.mp hjn
          obtain⟨q1,q2⟩:=A03.mp hjm
          exact(A1V hn).mp (p2.trans q2.symm)
         subst hji
         rw[han] at ham
         cases ham
         symm
         refine Qy hT5 hn hjn han ?_
         refine al1 hk1 ?_
         symm
         refine Qy hT5 hn hjn han ?_
         symm
         refine au1 hk1 ?_
         symm
         refine⟨_,rfl,e5,fz5,hT5.congr λz hz y=>?_⟩
         by_cases hzn:z=nm
         . subst hzn
           unfold ah2
           constructor
           . exact λh=>.inl (h.elim (λq=>q) λq=>q.2.2)
           exact λh=>.inl (h.elim (λq=>q) λq=>q.2.2)
         exact hother z hz hzn y
       have hane:an≠am:=λq=>by
        subst q
        obtain⟨p1,p2⟩:=A03.mp han
        obtain⟨q1,q2⟩:=A03.mp ham
        have:=(A1V hT5.nd).mp (p2.trans q2.symm)
        subst this
        rw[hjn] at hjm
        exact hne (A0R hjm)
       symm
       refine Qy hT5 hn hjn han ?_
       refine al1 hk1 ?_
       symm
       refine Qy hT5 hn hjm ham ?_
       symm
       refine ax6 hk1 hm1 hane (by omega) λH6 e6 h6=>?_
       symm
       have ha0:H an=none:=(haf an (A04 han)).2
       refine⟨_,rfl,by walk_at "sm",fz5.trans (e6.fzD hk1),hT5.put e6 hn hjn han h6 (J0 hk2) (λy hy=>?_) (λy=>?_) hother⟩
       . rcases mem_addAll.mp hy with hy | hy
         . exact hk3 y hy
         exact hm3 y hy
       rw[mem_addAll,hk4,hmid2]
       unfold ah2
       rw[htj,A0B,A15]
       constructor
       . rintro((h | h) | h)
         . exact .inl h
         . exact .inr ⟨.inl h.1,h.2⟩
         exact .inr ⟨.inr rfl,hRn,h⟩
       rintro(h | h)
       . exact .inl (.inl h)
       exact .inr h.2.2
     have hRn:¬ R nm mid:=λq=>hc (hin.mpr q)
     symm
     refine⟨_,rfl,e5,fz5,hT5.congr λz hz y=>?_⟩
     by_cases hzn:z=nm
     . subst hzn
       unfold ah2
       constructor
       . exact λh=>.inl (h.elim (λq=>q) λq=>absurd q.2.1 hRn)
       exact λh=>.inl (h.elim (λq=>q) λq=>absurd q.2.1 hRn)
     exact hother z hz hzn y
   obtain⟨x5',rfl,e5,fz5,hT5⟩:=hP
   rw[A17] at hT5
   refine⟨_,_,_,rfl,e5,fz4.trans fz5,hT5.congr (R':=λz y=>R z y\/(R z mid/\R mid y)) λz hz y=>?_,?_⟩
   . unfold ah2
     simp[hz]
   have htj:ns.take (i+1)=ns.take i++[mid]:=by rw[A12,hmid];rfl
   rw[htj]
   exact hR.step
 obtain⟨x4,x5,R,rfl,e4,fz4,hT4,hR⟩:=hP
 rw[A17] at hR
 symm
 exact k r as H4 hr0 (λa ha'=>(haf a ha').2) e4 (hT4.congr λz _ y=>hR.done hW.mem z y)
def WyT (K:PySem.W.Frag)(H:Hp)(ps:List (Str×Str))(x:Str)(ks:List Str)(ts:List Addr):Prop:=ts.length=ks.length/\∀(i:Nat) (z:Str) (t:Addr),ks[i]? = some z->ts[i]? = some t->∃ js os,Is K H (jsD js) (.ref t)/\js.length<=1000/\Trl ps x js z os/\∀ o∈os,o∈ks
theorem WyT.fz {K:PySem.W.Frag}{H H':Hp}{ps:List (Str×Str)}{x:Str}{ks:List Str}{ts:List Addr}(h:WyT K H ps x ks ts)(e:Fz H H'):WyT K H' ps x ks ts:=
 ⟨h.1,λi z t hz ht=>let ⟨js,os,h1,h2⟩:=h.2 i z t hz ht;⟨js,os,Is.fz e _ _ (ah6 js) h1,h2⟩⟩
theorem WyT.snoc {K:PySem.W.Frag}{H:Hp}{ps:List (Str×Str)}{x:Str}{ks:List Str}{ts:List Addr}(h:WyT K H ps x ks ts){z:Str}{t:Addr}{js:List Nat}{os:List Str}(h1:Is K H (jsD js) (.ref t))(h2:js.length<=1000)(h3:Trl ps x js z os)(h4:∀ o∈os,o∈ks):WyT K H ps x (ks++[z]) (ts++[t]):=by
 refine⟨by simp[h.1],λi y u hy hu=>?_⟩
 by_cases hi:i<ks.length
 . rw[A1B hi] at hy
   rw[A1B (by rw[h.1];exact hi)] at hu
   obtain⟨js',os',g1,g2,g3,g4⟩:=h.2 i y u hy hu
   exact⟨js',os',g1,g2,g3,λo ho=>A0T _ (g4 o ho)⟩
 have hi':i=ks.length:=by
  have:=(A03.mp hy).1
  rw[A0H,A18] at this
  omega
 subst hi'
 have e1:y=z:=by simpa using hy.symm
 have e2:u=t:=by
  rw[<- h.1] at hu
  simpa using hu.symm
 subst e1 e2
 exact⟨js,os,h1,h2,h3,λo ho=>A0T _ (h4 o ho)⟩
def En (K:PySem.W.Frag):Sp:=λvs H Q _=>∃ v x y ps,vs=[v,.str x,.str y]/\Is K H (psD ps) v/\ps.length<=100/\∀ u H',Same H H'->((u = .non/\¬ x=y/\¬ Way ps x y)\/∃ js os,Is K H' (jsD js) u/\js.length<=1000/\Trl ps x js y os)->Q u H'
theorem L7 {f:Addr}{fd:FuncData}(F:Fun K "way_by_sayings" "way_by_sayings" Bu f fd)(T:Fp mg):FnOk P w K mg base CX0 1 f fd ["sayings","start","goal"] (En K):=by
 refine F.ok Bk (λvs H Q E h=>?_) (λcdv A outer s H vs Q E hr h=>?_)
 . obtain⟨v,x,y,ps,rfl,_⟩:=h
   rfl
 obtain⟨v,x,y,ps,rfl,hI,hl,k⟩:=h
 have hu:=Cc hr
 have hq:=Cd hr
 with_reducible refine⟨_,(A5 (Al (i:=3) Bk.nd ⋯ (by eq_refl) (Re (Dm (pv 1) (B6 A4) R7) ⋯ ⋯ ∅ ∅))
  (A5 (Al (i:=4) Bk.nd ⋯ (by eq_refl) (Bz (A3 (pv 1) A4)))
  (A5 (Wn A1C (Ai aw7 (Ag (C7 (K:=K)) ⋯ T.b_len PyProof.Rows.Boot.«len» (A3 (pv 4) A4)) A9 (An _))
  (A5 (Al (i:=5) Bk.nd ⋯ (by eq_refl) (Ff (K:=K) A0F A2K A2L (mm a97) (pv 4) (A3 A9 A4)))
  (A7 (Hi A1C ⋯ (an2 (K:=K) ⋯ T.b_enumerate (A3 (pv 0) A4)) (Uh (K:=K) (n:=2) ⋯ (Jg (B4 (i:=6) Bk.nd ⋯ (by eq_refl)) (Jg (B4 (i:=7) Bk.nd ⋯ (by eq_refl)) Ul)))
  (A7 (Bc (PW.pt (To (Ai (B5 (K:=K) hq) (Af (A8 (K:=K) hu) (pv 7) A9 (by ac_rfl)) (pv 5) (An _)) (Rp (Ai (Ga (K:=K) hq) (Af (A8 (K:=K) hu) (pv 7) A9 (by ac_rfl)) (pv 3) ⋯)))) (A5 (Dn hu (pv 3) (Af (A8 (K:=K) hu) (pv 7) A9 (by ac_rfl)) (B3 (Aw (K:=K)) (Af (A8 (K:=K) hu) (pv 3) (pv 5) (by ac_rfl)) (B6 (A3 (pv 6) A4))) ⋯)
  (A7 (Bf (Ff (K:=K) A0F A0O A0P (mm Bg) (pv 4) (A3 (Af (A8 (K:=K) hu) (pv 7) A9 (by ac_rfl)) A4))))) Am))))))
  (A7 (Ap (ac0 hu (pv 3) (pv 2) (by with_unfolding_all exact⟨rfl,rfl,rfl,rfl⟩))))))),?_⟩
 symm
 refine Vy λr H1 hr1 e1 h1=>?_
 symm
 refine Az ∅ λt0 H2 ht2 e2 h2=>?_
 symm
 refine Rn [(Sum.inr x,.ref t0)] (by walk_at "lk") (by rfl) nofun λH3 e3 h3=>?_
 have h3':H3 r=some (.dK (L3 [x] [t0])):=h3
 symm
 refine B7 (Aa nofun) λq H4 hq4 e4 h4=>?_
 have h2r:H2 r=some (.dK []):=e2 _ _ h1
 have ht03:H3 t0=some (.tup []):=e3 _ _ (ne_of h2 h2r (by intro z;cases z)) h2
 have hrq:r≠q:=ne_of_none h3' hq4
 have e04:Same H H4:=by walk_at "sm"
 have hq0:H q=none:=Same.free (by walk_at "sm":Same H H3) hq4
 have hW0:WyT K H4 ps x [x] [t0]:=⟨rfl,λi z t hz ht=>by
  have hi:i=0:=by
   have:=(A03.mp hz).1
   simpa using this
  subst hi
  have e1:z=x:=by simpa using hz.symm
  have e2:t=t0:=by simpa using ht.symm
  subst e1 e2
  exact⟨[],[],Is.of_tup (SqT.of (e4 _ _ ht03)) .nil,by decide,Trl.nil ps _,λ_ h=>by cases h⟩⟩
 symm
 refine Ya (λm σ H5=>∃ ks ws ts x5 x6 x7,σ=[some v,some (.str x),some (.str y),some (.ref r),some (.ref q),x5,x6,x7]/\Same H H5/\H5 r=some (.dK (L3 ks ts))/\H5 q=some (.lst (ws.map V.str))/\WyT K H5 ps x ks ts/\WyI ps x ks ws/\m=2*(ps.length+1-ks.length)+ws.length)
  (2*(ps.length+1-[x].length)+[x].length) ⟨[x],[x],[t0],_,_,_,rfl,e04,e4 _ _ h3',h4,hW0,⟨by simp,by simp,λy hy=>.inl (by simpa using hy),λz hz=>hz,λz hz hn=>absurd hz hn,by simp⟩,rfl⟩ λm σ H5 hP=>?_
 obtain⟨ks,ws,ts,x5,x6,x7,rfl,e5,h5r,h5q,hT5,hB,rfl⟩:=hP
 symm
 refine Fh (λhE=>?_) (λhE=>?_)
 . cases ws with
   | nil=>simp at hE
   | cons here ws=>
   refine ag5 ?_
   symm
   refine aa9 (y:=.str here) h5q ∅ (by rfl) (λH6 e6 h6q=>?_) (by have:=hB.le;have:=hB.few;rw[A00];omega)
   have h6q':H6 q=some (.lst (ws.map V.str)):=h6q
   have h6r:H6 r=some (.dK (L3 ks ts)):=e6 _ _ hrq h5r
   have fz6:Fz H5 H6:=e6.fzL h5q
   have e06:Same H H6:=by walk_at "sm"
   have hle:=hB.le
   have hfew:=hB.few
   rw[A0Z] at hfew
   symm
   refine ai6 (hI.ps_fz e06.fz) (λi σ H7=>∃ gs ms us x6 x7,σ=[some v,some (.str x),some (.str y),some (.ref r),some (.ref q),some (.str here),x6,x7]/\Same H H7/\Fz H6 H7/\H7 r=some (.dK (L3 gs us))/\H7 q=some (.lst (ms.map V.str))/\WyT K H7 ps x gs us/\WyJ ps x here ks ws gs ms i)
    ⟨ks,ws,ts,_,_,rfl,e06,.refl _,h6r,h6q',hT5.fz fz6,⟨hB.nd,hB.way,λz hz=>hB.line z (A0C _ hz),λ_ h=>h,λ_ h=>h,λ_ h=>.inl h,λj hj=>absurd hj (Nat.not_lt_zero _),rfl⟩⟩ (λi σ' H' hP=>?_) (λi pr w σ' H7 H8 hpr hIp hP e8=>?_) (fun σ' H7 hP=>?_)
   . obtain⟨_,_,_,_,_,_,_,fz,_⟩:=hP
     exact fz
   . obtain⟨gs,ms,us,x6',x7',rfl,e7,fz7,h7r,h7q,hT7,hJ⟩:=hP
     have hgl:=hJ.le
     have hml:=hJ.len
     have h8r:=e8 _ _ h7r
     have h8q:=e8 _ _ h7q
     have hT8:=hT7.fz e8.fz
     have hhere:here∈gs:=hJ.keep here (hB.line here A0V)
     symm
     refine Zb hIp ?_
     symm
     refine Fh (λh1=>?_) (λh1=>?_)
     . have h1':pr.1=here:=by injection h1
       symm
       refine Ss hIp ?_
       symm
       refine a91 h8r hT8.1 ?_
       symm
       refine Wz (λh2=>?_) (λh2=>?_)
       . obtain⟨ih,hih,eih⟩:=A2B hhere
         have gih:gs[ih]? = some here:=by rw[A08 hih,eih]
         obtain⟨th,gth⟩:∃ th,us[ih]? = some th:=⟨us[ih]'(by rw[hT8.1];exact hih),A08 _⟩
         obtain⟨js,os,hj1,hj2,hj3,hj4⟩:=hT8.2 ih here th gih gth
         obtain⟨at',xs',hat,hS8,hL8⟩:=Is.tup hj1
         cases hat
         have hlen8:xs'.length=js.length:=by rw[<- IsL.length hL8,A00]
         have hosn:=hj3.nd
         have hjl:js.length<=ps.length+1:=by
          have:=Cr (A2P.mp hosn).1 (ys:=gs) hj4
          rw[hj3.len] at this
          omega
         symm
         refine i_ixD h8r (Ma hJ.nd gih gth) ?_
         symm
         refine Az (Aa nofun) λt9 H9 ht9 e9 h9=>?_
         refine ae2 (e9.seqT hS8) (SqT.of h9) (Aa (by simp;omega)) λt10 H10 e10 h10=>?_
         have hI10:Is K H10 (jsD (js++[i])) (.ref t10):=by
          unfold jsD
          rw[A0G]
          exact Is.of_tup h10 ((IsL.mono e10 _ _ (IsL.mono e9 _ _ hL8)).append (.one Gy))
         symm
         refine Ss ((hIp.pr_fz e9.fz).pr_fz e10.fz) ?_
         have h10r:=e10 _ _ (e9 _ _ h8r)
         have h10q:=e10 _ _ (e9 _ _ h8q)
         refine Gz h10r (by unfold L3;rw[List.length_map,List.length_zip];omega) λH11 e11 h11r=>?_
         rw[ak3 h2 hT8.1.symm] at h11r
         have fz11:Fz H10 H11:=e11.fzD h10r
         have h11q:=e11 _ _ (Ne.symm hrq) h10q
         symm
         refine Ss (((hIp.pr_fz e9.fz).pr_fz e10.fz).pr_fz fz11) ?_
         symm
         refine Fo h11q (by rw[A00];omega) λH12 e12 h12q=>?_
         symm
         have fz12:Fz H11 H12:=e12.fzL h11q
         have hT12:WyT K H12 ps x (gs++[pr.2]) (us++[t10]):=WyT.snoc (hT8.fz (((e9.fz.trans e10.fz).trans fz11).trans fz12)) (Is.fz (fz11.trans fz12) _ _ (ah6 _) hI10) (by simp;omega) (hj3.snoc (by rw[<- h1'];exact hpr) (λhm=>by
          rcases A0B.mp hm with hm | hm
          . exact h2 (hj4 _ hm)
          . have:pr.2=here:=by simpa using hm
            exact h2 (this ▸ hhere))) (λo ho=>by
          rcases A0B.mp ho with ho | ho
          . exact hj4 o ho
          have:o=here:=by simpa using ho
          exact this ▸ hhere)
         refine⟨gs++[pr.2],ms++[pr.2],us++[t10],_,_,rfl,by walk_at "sm",(((fz7.trans e8.fz).trans (e9.fz.trans e10.fz)).trans fz11).trans fz12,e12 _ _ hrq h11r,?_,hT12,hJ.step hhere hpr h1' h2⟩
         rw[h12q,A0G]
         rfl
       exact⟨gs,ms,us,_,_,rfl,by walk_at "sm",fz7.trans e8.fz,h8r,h8q,hT8,hJ.skip hpr λ_=>h2⟩
     exact⟨gs,ms,us,_,_,rfl,by walk_at "sm",fz7.trans e8.fz,h8r,h8q,hT8,hJ.skip hpr λe=>absurd (by rw[e]) h1⟩
   obtain⟨gs,ms,us,x6',x7',rfl,e7,fz7,h7r,h7q,hT7,hJ⟩:=hP
   have hgl:=hJ.le
   have hml:=hJ.len
   have hge:=Cr hB.nd hJ.keep
   refine⟨_,?_,gs,ms,us,_,_,_,rfl,e7,h7r,h7q,hT7,WyJ.done hB hJ,rfl⟩
   rw[A0Z]
   omega
 have hn:ws=[]:=by
  cases ws with
  | nil=>rfl
  | cons _ _=>simp at hE
 subst hn
 symm
 refine aC7 h5r ?_
 symm
 refine aA9 h5r ?_
 by_cases hy:y∈ks
 . obtain⟨iy,hiy,eiy⟩:=A2B hy
   have giy:ks[iy]? = some y:=by rw[A08 hiy,eiy]
   obtain⟨ty,gty⟩:∃ ty,ts[iy]? = some ty:=⟨ts[iy]'(by rw[hT5.1];exact hiy),A08 _⟩
   obtain⟨js,os,hj1,hj2,hj3,hj4⟩:=hT5.2 iy y ty giy gty
   rw[Ma hB.nd giy gty]
   exact k _ H5 e5 (.inr ⟨js,os,hj1,hj2,hj3⟩)
 rw[Hw hy]
 exact k _ H5 e5 (.inl ⟨rfl,λe=>hy (e ▸ hB.has),λg=>hy (hB.all g)⟩)
def az:Str:="abcdefghijklmnopqrstuvwxyz"
def ab4 (c:Nat):Bool:=!(Builtin.Str.occurrences az ⟨#[c]⟩ 0 az.length 1).isEmpty
def Kr (x:Str):Bool:=decide (1<=x.length)&&decide (x.length<=8)&&x.cps.toList.all ab4
def aF9 (K:PySem.W.Frag)(H:Hp)(v:V):Prop:=∃ t,TyOf K H v t/\PySem.W.kitOne K t (.type "str")=some false
def L4 (K:PySem.W.Frag):Sp:=λvs H Q _=>∃ v,vs=[v]/\((∃ x,v = .str x/\x.length<=1000000/\∀ H',Same H H'->Q (.bl (Kr x)) H')\/(aF9 K H v/\Q (.bl false) H))
theorem Xo {f:Addr}{fd:FuncData}(F:Fun K "is_name" "is_name" Hf f fd)(T:Fp mg):FnOk P w K mg base CX0 1 f fd ["thing"] (L4 K):=by
 refine F.ok X5 (λvs H Q E h=>?_) (λcdv A outer s H vs Q E hr h=>?_)
 . obtain⟨v,rfl,_⟩:=h
   rfl
 obtain⟨v,rfl,h⟩:=h
 have hu:=Cc hr
 have hq:=Cd hr
 with_reducible refine⟨_,(A5 (Bc (Ig (Dr (Ag (Dw (K:=K)) ⋯ T.b_isinstance PyProof.Rows.Boot.«isinstance» (A3 (pv 0) (A3 (Ho (v:=.ty "str") ⋯ T.b_str PyProof.Rows.Boot.«str» ⋯) A4))))) (A7 (Ap Ij)) Am)
  (A5 (Bc (PW.pt (Rx (Ai ad7 (Ag (C7 (K:=K)) ⋯ T.b_len PyProof.Rows.Boot.«len» (A3 (pv 0) A4)) A9 (An _)) (Od (Ai aw7 (Ag (C7 (K:=K)) ⋯ T.b_len PyProof.Rows.Boot.«len» (A3 (pv 0) A4)) (Ii ⋯ T.g_MOST_SIGNS) (An _))))) (A7 (Ap Ij)) Am)
  (A7 (Ap (Ag (Su (K:=K) ⋯) ⋯ T.b_all PyProof.Rows.Boot.«all» (A3 (Eu ["sign"] [] [] ⋯ ⋯ ⋯ (Bs (K:=K) hu (pv 0)) (λ_ _ _ _=>(B4 (i:=0) (by with_unfolding_all (show(["sign"]:List Str).Nodup;decide +kernel)) ⋯ (by eq_refl))) (Ed ∅) (λ_ _ _ _=>G2) (λ_ _ _ _=>(C3 (Qc (K:=K) hq) (pv 0) (Ii ⋯ T.g_SMALL_LETTERS) ⋯))) A4)))))),?_⟩
 symm
 rcases h with ⟨x,rfl,hx,k⟩ | ⟨⟨t,ht,hk⟩,k⟩
 . refine a96 (TyOf.str x) (b:=true) (by rfl) ?_
   symm
   refine Fh (λh1=>?_) (λh1=>?_)
   . symm
     have e:Kr x=false:=by
      unfold Kr
      rw[A0Q (by omega:¬ 1<=x.length)]
      rfl
     have:=k H (Same.refl H)
     rw[e] at this
     exact this
   symm
   refine Fh (λh2=>?_) (λh2=>?_)
   . symm
     have e:Kr x=false:=by
      unfold Kr
      rw[A0Q (by omega:¬ x.length<=8),Bool.and_false]
      rfl
     have:=k H (Same.refl H)
     rw[e] at this
     exact this
   symm
   refine M4 (a73 x) (λv=>.bl (match v with | .str z=>!(Builtin.Str.occurrences az z 0 az.length 1).isEmpty | _=>false)) (by rw[A00,A4K];exact hx) (λ_ _=>trivial) (λi v H1 R hv e hR=>?_) λp H' hp e h=>?_
   . obtain⟨c,rfl,_⟩:=ap9 hv
     symm
     exact hR
   symm
   have e1:(x.cps.toList.map λc=>V.str ⟨#[c]⟩).map (λv=>V.bl (match v with | .str z=>!(Builtin.Str.occurrences az z 0 az.length 1).isEmpty | _=>false))=(x.cps.toList.map ab4).map V.bl:=by
    rw[A1K,A1K]
    rfl
   rw[e1] at h
   refine au2 (SqL.of h) ?_
   have e2:Kr x=(x.cps.toList.map ab4).all id:=by
    unfold Kr
    rw[A0S (by omega:1<=x.length),A0S (by omega:x.length<=8),List.all_map]
    rfl
   have:=k H' e
   rw[e2] at this
   exact this
 refine a96 ht hk ?_
 symm
 exact k
theorem ac5:∀ c<123,97<=c->ab4 c=true:=by decide +kernel
theorem a05 {z:Str}(h:Tyq z=true):Kr z=true:=by
 unfold Tyq at h
 unfold Kr
 rw[A19] at h ⊢
 refine⟨h.1,?_⟩
 rw[A1W]
 intro c hc
 have:=A1W.mp h.2 c hc
 unfold Lo at this
 simp only[Bool.and_eq_true,decide_eq_true_eq] at this
 exact ac5 c (by omega) (by omega)
def Cb (K:PySem.W.Frag):Sp:=λvs H Q _=>∃ v ns,vs=[v]/\Is K H (nmD ns) v/\Names ns/\ns.length<=10/\∀ H',Same H H'->Q (.bl true) H'
theorem K7 {f:Addr}{fd:FuncData}(F:Fun K "are_unlike_names" "are_unlike_names" Bd f fd)(T:Fp mg)(Nf:Fnd P w K mg base 1 "is_name" ["thing"] (L4 K)):FnOk P w K mg base CX0 2 f fd ["thing"] (Cb K):=by
 refine F.ok K2 (λvs H Q E h=>?_) (λcdv A outer s H vs Q E hr h=>?_)
 . obtain⟨v,ns,rfl,_⟩:=h
   rfl
 obtain⟨v,ns,rfl,hI,hN,hz,k⟩:=h
 have hu:=Cc hr
 have hq:=Cd hr
 obtain⟨a,rfl,hS⟩:=hI.nm
 with_reducible refine⟨_,(A5 (Bc (Ig (Dr (Ag (Dw (K:=K)) ⋯ T.b_isinstance PyProof.Rows.Boot.«isinstance» (A3 (pv 0) (A3 (Ho (v:=.ty "tuple") ⋯ T.b_tuple PyProof.Rows.Boot.«tuple» ⋯) A4))))) (A7 (Ap Ij)) Am)
  (A5 (Bc (Ig (Dr (Ag (Su (K:=K) ⋯) ⋯ T.b_all PyProof.Rows.Boot.«all» (A3 (Eu ["name"] [] [] ⋯ ⋯ ⋯ (Bs (K:=K) hu (pv 0)) (λ_ _ _ _=>(B4 (i:=0) (by with_unfolding_all (show(["name"]:List Str).Nodup;decide +kernel)) ⋯ (by eq_refl))) (Ed ∅) (λ_ _ _ _=>G2) (λ_ _ _ _=>(Bo Nf (hr.mono ∅) ⋯ (A3 (pv 0) A4)))) A4)))) (A7 (Ap Ij)) Am)
  (A7 (Ap (C3 (B5 (K:=K) hq) (Zo (K:=K) hr.hd ⋯ T.b_len ⋯ T.b_set (A3 (pv 0) A4)) (Ag (C7 (K:=K)) ⋯ T.b_len PyProof.Rows.Boot.«len» (A3 (pv 0) A4)) (An _)))))),?_⟩
 symm
 refine Z8 hS (b:=true) (by first | rfl | kernel_rfl) ?_
 symm
 refine Pc hS ?_
 refine ac7 (K:=K) (Fb (xs:=ns.map V.str)) ns nofun (λ_=>true) (by rw[A00];omega) (λH' e=>e.seqT hS) (λm z xv H1 R hz' hxv e1 hR=>?_) (λq H1 hq1 e1 h1=>?_)
 . rw[A0A,hz'] at hxv
   cases hxv
   have hnm:=hN.2 z (A04 hz')
   symm
   refine⟨.str z,rfl,.inl ⟨z,rfl,by have:=aA2 hnm;omega,λH2 e2=>?_⟩⟩
   rw[a05 hnm]
   exact hR H2 e2
 symm
 refine au2 h1 ?_
 rw[show(ns.map λ_=>true).all id=true by rw[List.all_map];simp]
 symm
 refine ab2 (e1.seqT hS) (by omega) ?_
 symm
 refine af0 (hI.nm_fz e1.fz) ?_
 rw[Zg hN.1]
 symm
 simp only[decide_true]
 exact k H1 e1
def Ew (K:PySem.W.Frag):Sp:=Cb K
theorem Kt {f:Addr}{fd:FuncData}(F:Fun K "are_tale_names" "are_tale_names" Bw f fd)(T:Fp mg)(Ec:Fnd P w K mg base 2 "are_unlike_names" ["thing"] (Cb K)):FnOk P w K mg base CX0 3 f fd ["thing"] (Ew K):=by
 refine F.ok Ku (λvs H Q E h=>?_) (λcdv A outer s H vs Q E hr h=>?_)
 . obtain⟨v,ns,rfl,_⟩:=h
   rfl
 obtain⟨v,ns,rfl,hI,hN,hz,k⟩:=h
 have hu:=Cc hr
 have hq:=Cd hr
 with_reducible refine⟨_,(A7 (Ap (W6 (Bo Ec (hr.mono ∅) ⋯ (A3 (pv 0) A4)) (Vd (C3 aE0 (Ag (C7 (K:=K)) ⋯ T.b_len PyProof.Rows.Boot.«len» (A3 (pv 0) A4)) (Ii ⋯ T.g_MOST_NAMES) (An _)))))),?_⟩
 symm
 refine⟨v,ns,rfl,hI,hN,hz,λH1 e1=>?_⟩
 symm
 refine af0 (hI.nm_fz e1.fz) ?_
 symm
 rw[A0S (by omega)]
 exact k H1 e1
def La (K:PySem.W.Frag):Sp:=λvs H Q _=>∃ v ns,vs=[v]/\Is K H (nmD ns) v/\ns.Nodup/\ns.length<=10/\∀ d H',H d=none->Same H H'->H' d=some (.dK (aq2 ns))->Q (.ref d) H'
def Hz (K:PySem.W.Frag):Sp:=λvs H Q _=>∃ v bd ns ps,vs=[v,.ref bd]/\Is K H (hfD ns ps) v/\R5 ns ps/\ns.length<=10/\H bd=some (.dK (aq2 ns))/\∀ d H',H d=none->Same H H'->H' d=some (.dK (ahK ns ps))->Q (.ref d) H'
def J6 (C:Addr)(K:PySem.W.Frag):Sp:=λvs H Q _=>∃ p v dx ns ps,vs=[.ref p,v]/\H p=some (.ins C dx [])/\Is K H (hfD ns ps) v/\R5 ns ps/\ns.length<=10 /\
 ∀ nv bd ad kd kvs H',H kd=none->ExtBut p H H'->WaysAt K C H' p dx nv bd ad kd ns ps kvs->Q .non H'
def Cq (C:Addr)(K:PySem.W.Frag):Sp:=λvs H Q _=>∃ p dx nv bd ad kd ns ps kvs q,vs=[.ref p,.int ((Ez ns q:Nat):Int)]/\WaysAt K C H p dx nv bd ad kd ns ps kvs/\R5 ns ps/\ns.length<=10 /\
 ∀ l H',H l=none->Same H H'->H' l=some (.lst ((frF (Ka ps) (ns.filter q)).map V.str))->Q (.ref l) H'
def Ce (C:Addr)(K:PySem.W.Frag)(n:Nat):Sp:=λvs H Q _=>∃ p dx nv bd ad kd ns ps kvs q,vs=[.ref p,.int ((Ez ns q:Nat):Int)]/\WaysAt K C H p dx nv bd ad kd ns ps kvs/\R5 ns ps/\ns.length<=10/\(ns.filter q).length<n /\
 ∀ kvs' H',ExtBut kd H H'->WaysAt K C H' p dx nv bd ad kd ns ps kvs'->Q (.int ((cnt (Ka ps) (ns.filter q):Nat):Int)) H'
def Gc (C:Addr)(K:PySem.W.Frag):Sp:=Ce C K 11
theorem Iw {C:Addr}{K:PySem.W.Frag}:∀ vs H Q E,¬ Ce C K 0 vs H Q E:=by
 rintro vs H Q E ⟨_,_,_,_,_,_,_,_,_,_,_,_,_,_,h,_⟩
 exact absurd h (Nat.not_lt_zero _)
def Qv (K:PySem.W.Frag):Sp:=λvs H Q _=>∃ v ns ps,vs=[v]/\Is K H (hfD ns ps) v/\R5 ns ps/\ns.length<=10/\∀ H',Same H H'->Q (.int ((cnt (Ka ps) ns:Nat):Int)) H'
theorem af9 {ns:List Str}(hn:ns.Nodup)(h:ns.length<=10){x:Str}(hx:x∈ns):Fq ns x<=1024:=by
 obtain⟨j,hj⟩:=A4E.mp hx
 rw[Ni hn hj]
 exact(A4G ∅ (by have:=(A03.mp hj).1;omega):2 ^ j<=2 ^ 10)
theorem Gx {f g:Str}{v x:V}{r:List (Str×V)}(h:¬ g=f):Lj f v ((g,x) :: r)=(g,x) :: Lj f v r:=by
 show(if g=f then _ else _)=_
 rw[A0Y h]
theorem fld2 (a b:V):Lj "bits" b [("names",a)]=([("names",a),("bits",b)]:List (Str×V)):=by
 rw[Gx (by decide +kernel)]
 rfl
theorem fld3 (a b c:V):Lj "ahead" c [("names",a),("bits",b)]=([("names",a),("bits",b),("ahead",c)]:List (Str×V)):=by
 rw[Gx (by decide +kernel),Gx (by decide +kernel)]
 rfl
theorem fld4 (a b c d:V):Lj "full" d [("names",a),("bits",b),("ahead",c)]=([("names",a),("bits",b),("ahead",c),("full",d)]:List (Str×V)):=by
 rw[Gx (by decide +kernel),Gx (by decide +kernel),Gx (by decide +kernel)]
 rfl
theorem fld5 (a b c d e:V):Lj "known" e [("names",a),("bits",b),("ahead",c),("full",d)]=([("names",a),("bits",b),("ahead",c),("full",d),("known",e)]:List (Str×V)):=by
 rw[Gx (by decide +kernel),Gx (by decide +kernel),Gx (by decide +kernel),Gx (by decide +kernel)]
 rfl
theorem Xm {f:Addr}{fd:FuncData}(F:Fun K "bits_of" "bits_of" Hk f fd)(T:Fp mg):FnOk P w K mg base CX0 1 f fd ["names"] (La K):=by
 refine F.ok Hj (λvs H Q E h=>?_) (λcdv A outer s H vs Q E hr h=>?_)
 . obtain⟨v,ns,rfl,_⟩:=h
   rfl
 obtain⟨v,ns,rfl,hI,hn,h10,k⟩:=h
 have hu:=Cc hr
 have hq:=Cd hr
 with_reducible refine⟨_,(A5 (Al (i:=1) Hj.nd ⋯ (by eq_refl) Lz)
  (A5 (Al (i:=2) Hj.nd ⋯ (by eq_refl) A9)
  (A5 (Hi A1C ⋯ (Bs (K:=K) hu (pv 0)) (B4 (i:=3) Hj.nd ⋯ (by eq_refl))
  (A5 (Dn hu (pv 1) (pv 3) (pv 2) ⋯)
  (A7 (Al (i:=2) Hj.nd ⋯ (by eq_refl) (B3 Fy (pv 2) A9)))))
  (A7 (Ap (pv 1)))))),?_⟩
 symm
 refine Vk λd H1 hd1 e1 h1=>?_
 symm
 refine Ko (hI.nm_fz e1.fz) (λi σ H2=>∃ x3,σ=[some v,some (.ref d),some (.int ((2 ^ i:Nat):Int)),x3]/\Same H H2/\Fz H1 H2/\H2 d=some (.dK ((ns.take i).map λx=>((Sum.inr x:Key),V.int ((Fq ns x:Nat):Int)))))
  ⟨_,rfl,e1,.refl _,h1⟩ (λi σ' H' hP=>hP.choose_spec.2.2.1) (λi z σ' H2 hz hP=>?_) (fun σ' H2 hP=>?_)
 . obtain⟨x3,rfl,e2,fz2,h2⟩:=hP
   have hin:i<ns.length:=(A03.mp hz).1
   have hlt:2 ^ i<=2 ^ 10:=A4G ∅ (by omega)
   have hno:z∉ns.take i:=λhm=>by
    obtain⟨j,hj⟩:=A4E.mp hm
    rw[List.getElem?_take] at hj
    split at hj
    . rename_i hji
      have a1:=A03.mp hj
      have a2:=A03.mp hz
      have:=(A1V hn).mp (a1.2.trans a2.2.symm)
      omega
    cases hj
   symm
   refine Gz h2 (by rw[A00,A16];omega) λH3 e3 h3=>?_
   rw[Kh _ (J5 hno)] at h3
   symm
   refine⟨some (.str z),?_,e2.off hd1 e3,fz2.trans (e3.fzD h2),?_⟩
   . have:((2 ^ i:Nat):Int)*2=((2 ^ (i+1):Nat):Int):=by rw[Nat.pow_succ];omega
     rw[this]
     rfl
   rw[h3,A12,hz]
   have:((2 ^ i:Nat):Int)=((Fq ns z:Nat):Int):=by rw[Ni hn hz]
   rw[this]
   simp
 obtain⟨x3,rfl,e2,fz2,h2⟩:=hP
 rw[A17] at h2
 symm
 exact k d H2 hd1 e2 h2
theorem Qr {f:Addr}{fd:FuncData}(F:Fun K "bits_ahead" "bits_ahead" Dt f fd)(T:Fp mg)(Cy:Fnd P w K mg base 1 "behind_each" ["half"] (Fa K)):FnOk P w K mg base CX0 2 f fd ["half","bits"] (Hz K):=by
 refine F.ok Ft (λvs H Q E h=>?_) (λcdv A outer s H vs Q E hr h=>?_)
 . obtain⟨v,bd,ns,ps,rfl,_⟩:=h
   rfl
 obtain⟨v,bd,ns,ps,rfl,hI,hW,h10,hB,k⟩:=h
 have hu:=Cc hr
 have hq:=Cd hr
 have hn:=hW.nd
 with_reducible refine⟨_,(A5 (Al (i:=2) Ft.nd ⋯ (by with_unfolding_all exact Or.inr rfl) (Bo Cy (hr.mono ∅) ⋯ (A3 (pv 0) A4)))
  (A5 (Al (i:=3) Ft.nd ⋯ (by eq_refl) Lz)
  (A5 (Hi A1C ⋯ (Bs (K:=K) hu (Af (A8 (K:=K) hu) (pv 0) A9 (by ac_rfl))) (B4 (i:=4) Ft.nd ⋯ (by with_unfolding_all exact Or.inr rfl))
  (A7 (Dn hu (pv 3) (pv 4) (Ag (Sl (K:=K) ⋯) ⋯ T.b_sum PyProof.Rows.Boot.«sum» (A3 (Eu ["one"] ["bits","name","reach"] [1,4,2] ⋯ ⋯ ⋯ (Bs (K:=K) hu (Af (A8 (K:=K) hu) (pv 0) A9 (by ac_rfl))) (λ_ _ _ _=>(B4 (i:=0) (by with_unfolding_all (show(["one","bits","name","reach"]:List Str).Nodup;decide +kernel)) ⋯ (by eq_refl))) (Ed ∅) (λ_ _ _ _=>(Qo (Ai (Qc (K:=K) hq) (pv 2) (Af (A8 (K:=K) hu) (pv 3) (pv 0) (by ac_rfl)) ⋯))) (λ_ _ _ _=>(Af (A8 (K:=K) hu) (pv 1) (pv 0) (by ac_rfl)))) A4)) ⋯)))
  (A7 (Ap (pv 3)))))),?_⟩
 symm
 refine⟨v,ns,ps,rfl,hI,hW,λr as H1 hr1 ha1 e1 hT=>?_⟩
 symm
 refine Vk λd H2 hd2 e2 h2=>?_
 symm
 have e12:=e1.trans e2
 refine Ql (hI.hf_fz e12.fz) λnv hN=>?_
 refine Ko hN (λi σ H3=>∃ x4,σ=[some v,some (.ref bd),some (.ref r),some (.ref d),x4]/\Same H1 H3/\Fz H2 H3/\H3 d=some (.dK ((ns.take i).map λx=>((Sum.inr x:Key),V.int ((Ez ns (λy=>Ka ps y x):Nat):Int)))))
  ⟨_,rfl,e2,.refl _,h2⟩ (λi σ' H' hP=>hP.choose_spec.2.2.1) (λi z σ' H3 hz hP=>?_) (fun σ' H3 hP=>?_)
 . obtain⟨x4,rfl,e3,fz3,h3⟩:=hP
   have hin:i<ns.length:=(A03.mp hz).1
   have hno:z∉ns.take i:=λhm=>by
    obtain⟨j,hj⟩:=A4E.mp hm
    rw[List.getElem?_take] at hj
    split at hj
    . rename_i hji
      have a1:=A03.mp hj
      have a2:=A03.mp hz
      have:=(A1V hn).mp (a1.2.trans a2.2.symm)
      omega
    cases hj
   symm
   refine Ql (hI.hf_fz (e12.fz.trans fz3)) λnv3 hN3=>?_
   refine Yx hN3 (λy=>Ka ps y z) (λy=>PyData.int ((Fq ns y:Nat):Int)) (λ_=>rfl) (by omega) (λj y H4 R R' hy e4 hR hR'=>?_) (λq ys H4 hq4 e4 h4 hL4=>?_)
   . have hT4:=hT.same (e3.trans e4)
     obtain⟨jy,ay,hjy,hay⟩:=hT4.at (A04 hy)
     obtain⟨ks,hk1,hk2,hk3,hk4⟩:=hT4.row jy y ay hjy hay
     symm
     refine Qy hT4 hn hjy hay ?_
     refine Rb hk1 ?_
     rw[Qu (hk4 z)]
     symm
     refine az7 (λhb=>?_) (λhb=>?_)
     . symm
       refine i_ixD (e4 _ _ (e3 _ _ (e1 _ _ hB))) (Nl (A04 hy)) ?_
       exact hR hb _ _ (.refl _) rfl
     exact hR' hb _ (.refl _)
   have hm:(ns.filter λy=>Ka ps y z).map (λy=>PyData.int ((Fq ns y:Nat):Int))=((ns.filter λy=>Ka ps y z).map λy=>((Fq ns y:Nat):Int)).map PyData.int:=by rw[A1K];rfl
   rw[hm] at hL4
   have hys:=IsL.int_eq hL4
   subst hys
   symm
   refine aC6 (.inl (SqL.of h4)) (λn hn'=>?_) (by rw[A00];exact A0L (A1Y _ _) (by omega)) ?_
   . obtain⟨y,hy,rfl⟩:=A0I.mp hn'
     have hyn:=(A21.mp hy).1
     have:=af9 hn h10 hyn
     omega
   rw[M5,M7 _ hn]
   symm
   have h4d:H4 d=some _:=e4 _ _ h3
   refine Gz h4d (by rw[A00,A16];omega) λH5 e5 h5=>?_
   rw[Kh _ (J5 hno)] at h5
   symm
   refine⟨_,rfl,(e3.trans e4).off hd2 e5,(fz3.trans e4.fz).trans (e5.fzD h4d),?_⟩
   rw[h5,A12,hz]
   simp
 obtain⟨x4,rfl,e3,fz3,h3⟩:=hP
 rw[A17] at h3
 symm
 exact k d H3 (e1.free hd2) (e1.trans e3) h3
theorem Td {f:Addr}{fd:FuncData}(F:Fun K "__init__" "Ways.__init__" Es f fd)(T:Fp mg){C_Ways:Addr}(k_Ways:Ji K C_Ways)(Np:Fnd P w K mg base 1 "bits_of" ["names"] (La K))(J1:Fnd P w K mg base 2 "bits_ahead" ["half","bits"] (Hz K)):FnOk P w K mg base CX0 3 f fd ["self","half"] (J6 C_Ways K):=by
 refine F.ok Sb (λvs H Q E h=>?_) (λcdv A outer s H vs Q E hr h=>?_)
 . obtain⟨p,v,dx,ns,ps,rfl,_⟩:=h
   rfl
 obtain⟨p,v,dx,ns,ps,rfl,hp,hI,hW,h10,k⟩:=h
 have hu:=Cc hr
 have hq:=Cd hr
 have hn:=hW.nd
 with_reducible refine⟨_,(A5 (L5 (C:=C_Ways) (pv 0) (Af (A8 (K:=K) hu) (pv 1) A9 (by ac_rfl)) k_Ways.cl k_Ways.n_names ⋯)
  (A5 (L5 (C:=C_Ways) (pv 0) (Bo Np (hr.mono ∅) ⋯ (A3 (Af (A8 (K:=K) hu) (pv 1) A9 (by ac_rfl)) A4)) k_Ways.cl k_Ways.n_bits ⋯)
  (A5 (L5 (C:=C_Ways) (pv 0) (Bo J1 (hr.mono ∅) ⋯ (A3 (pv 1) (A3 (Dx (C:=C_Ways) (pv 0) k_Ways.cl k_Ways.n_bits ⋯) A4))) k_Ways.cl k_Ways.n_ahead ⋯)
  (A5 (L5 (C:=C_Ways) (pv 0) (Ag (Y8 ⋯) ⋯ T.b_sum PyProof.Rows.Boot.«sum» (A3 (L0 (K:=K) A2A PySem.F.slot_dict_values PySem.F.type_dict_values (mm a57) (Dx (C:=C_Ways) (pv 0) k_Ways.cl k_Ways.n_bits ⋯)) A4)) k_Ways.cl k_Ways.n_full ⋯)
  (A7 (L5 (C:=C_Ways) (pv 0) (Re (Dm A9 A9 R7) ⋯ ⋯ ∅ ∅) k_Ways.cl k_Ways.n_known ⋯)))))),?_⟩
 symm
 refine Ql hI λnv hN=>?_
 symm
 refine Wx hp ∅ λH1 e1 h1=>?_
 replace h1:H1 p=some (.ins C_Ways dx [("names",nv)]):=h1
 have fz1:=e1.fzI hp
 symm
 refine Ql (hI.hf_fz fz1) λnv1 hN1=>?_
 symm
 refine⟨nv1,ns,rfl,hN1,hn,h10,λbd H2 hb2 e2 h2=>?_⟩
 symm
 refine Wx (e2 _ _ h1) (by show 1<1000;decide) λH3 e3 h3=>?_
 rw[fld2] at h3
 have fz3:=e3.fzI (e2 _ _ h1)
 have hbp:bd≠p:=(ne_of_none h1 hb2).symm
 have h3b:H3 bd=some (.dK (aq2 ns)):=e3 _ _ hbp h2
 symm
 refine Kb h3 (by rfl) ?_
 symm
 refine⟨v,bd,ns,ps,rfl,hI.hf_fz ((fz1.trans e2.fz).trans fz3),hW,h10,h3b,λad H4 ha4 e4 h4=>?_⟩
 symm
 refine Wx (e4 _ _ h3) (by show 2<1000;decide) λH5 e5 h5=>?_
 rw[fld3] at h5
 have fz5:=e5.fzI (e4 _ _ h3)
 have hap:ad≠p:=(ne_of_none h3 ha4).symm
 have h5a:H5 ad=some (.dK (ahK ns ps)):=e5 _ _ hap h4
 have h5b:H5 bd=some (.dK (aq2 ns)):=e5 _ _ hbp (e4 _ _ h3b)
 symm
 refine Kb h5 (by rfl) ?_
 symm
 refine al1 h5b ?_
 symm
 refine aC3 h5b λv6 H6 hv6 e6 h6=>?_
 symm
 have hbs:∀ n∈ns.map (λx=>((Fq ns x:Nat):Int)),0<=n/\n<=1000000000000:=λn hn'=>by
  obtain⟨y,hy,rfl⟩:=A0I.mp hn'
  have:=af9 hn h10 hy
  omega
 refine aA6 h6 (e6 _ _ h5b) (ns:=ns.map λx=>((Fq ns x:Nat):Int)) (by unfold aq2;rw[List.map_map,List.map_map];rfl) hbs (by rw[List.length_map];omega) ?_
 have hsum:(ns.map (Fq ns)).sum=Ez ns (λ_=>true):=by
  have:=M7 (λ_=>true) hn
  rwa[show ns.filter (λ_=>true)=ns by simp] at this
 rw[M5,hsum]
 symm
 have h6p:=e6 _ _ h5
 refine Wx h6p (by show 3<1000;decide) λH7 e7 h7=>?_
 rw[fld4] at h7
 have fz7:=e7.fzI h6p
 symm
 refine Vy λkd H8 hk8 e8 h8=>?_
 symm
 refine Rn [(Sum.inl 0,V.int 1)] h8 rfl ∅ λH9 e9 h9=>?_
 symm
 have hkp:p≠kd:=ne_of_none h7 hk8
 have h9p:=e9 _ _ hkp (e8 _ _ h7)
 refine Wx h9p (by show 4<1000;decide) λH10 e10 h10'=>?_
 rw[fld5] at h10'
 have fz10:=e10.fzI h9p
 symm
 have hpb:bd≠p:=hbp
 have h7b:=e7 _ _ hbp (e6 _ _ h5b)
 have h7a:=e7 _ _ hap (e6 _ _ h5a)
 have hbk:bd≠kd:=ne_of_none h7b hk8
 have hak:ad≠kd:=ne_of_none h7a hk8
 have hE:ExtBut p H H7:=((((e1.same e2).trans e3).same e4).trans e5 |>.same e6).trans e7
 have hkH:H kd=none:=by
  cases c:H kd with
  | none=>rfl
  | some o=>rw[hE _ _ hkp.symm c] at hk8;cases hk8
 refine k nv bd ad kd [(Sum.inl 0,V.int 1)] H10 hkH ?_ ⟨h10',?_,?_,?_,?_,hbk,hak,Knw.new ns ps⟩
 . exact((hE.same e8).off hkH e9).trans e10
 . exact hN.nm_fz (((((((fz1.trans e2.fz).trans fz3).trans e4.fz).trans fz5).trans e6.fz).trans fz7).trans ((e8.fz.trans (e9.fzD h8)).trans fz10))
 . exact e10 _ _ hbp (e9 _ _ hbk (e8 _ _ h7b))
 . exact e10 _ _ hap (e9 _ _ hak (e8 _ _ h7a))
 exact e10 _ _ hkp.symm h9
theorem Ki {f:Addr}{fd:FuncData}(F:Fun K "free_names" "Ways.free_names" Bm f fd)(T:Fp mg){C_Ways:Addr}(k_Ways:Ji K C_Ways):FnOk P w K mg base CX0 1 f fd ["self","left"] (Cq C_Ways K):=by
 refine F.ok Kq (λvs H Q E h=>?_) (λcdv A outer s H vs Q E hr h=>?_)
 . obtain⟨p,dx,nv,bd,ad,kd,ns,ps,kvs,q,rfl,_⟩:=h
   rfl
 obtain⟨p,dx,nv,bd,ad,kd,ns,ps,kvs,q,rfl,hA,hW,h10,k⟩:=h
 have hu:=Cc hr
 have hq:=Cd hr
 have hn:=hW.nd
 with_reducible refine⟨_,(A7 (Ap (Eu ["name"] ["self","left"] [0,1] ⋯ ⋯ ⋯ (Bs (K:=K) hu (Dx (C:=C_Ways) (pv 0) k_Ways.cl k_Ways.n_names ⋯)) (λ_ _ _ _=>(B4 (i:=0) (by with_unfolding_all (show(["name","self","left"]:List Str).Nodup;decide +kernel)) ⋯ (by eq_refl))) (Ed ∅) (λ_ _ _ _=>(Qo (PW.pt (To (ae7 (B3 ag7 (Af (A8 (K:=K) hu) (Dx (C:=C_Ways) (pv 1) k_Ways.cl k_Ways.n_bits ⋯) (pv 0) (by ac_rfl)) (pv 2))) (Rp (Ig (ae7 (B3 ag7 (Af (A8 (K:=K) hu) (Dx (C:=C_Ways) (pv 1) k_Ways.cl k_Ways.n_ahead ⋯) (pv 0) (by ac_rfl)) (pv 2))))))))) (λ_ _ _ _=>(pv 0))))),?_⟩
 symm
 refine Kb hA.ob (by rfl) ?_
 refine Yx hA.nm (λx=>q x && !(ns.any λy=>Ka ps y x&&q y)) PyData.str (λ_=>rfl) (by omega) (λj x H1 R R' hx e1 hR hR'=>?_) (λl ys H1 hl1 e1 h1 hL1=>?_)
 . have hA1:=hA.same e1
   have hxn:=A04 hx
   symm
   refine Kb hA1.ob (by rfl) ?_
   symm
   refine i_ixD hA1.bt (Nl hxn) ?_
   symm
   rw[aj9 hn hxn]
   refine az7 (λhb=>?_) (λhb=>?_)
   . symm
     refine Kb hA1.ob (by rfl) ?_
     symm
     refine i_ixD hA1.ah (Nl hxn) ?_
     symm
     rw[Za]
     symm
     refine aC0 (λhc=>?_) (λhc=>?_)
     . symm
       exact hR (by rw[hb,hc];rfl) _ _ (.refl _) Dp
     exact hR' (by rw[hb,hc];rfl) _ (.refl _)
   exact hR' (by rw[hb];rfl) _ (.refl _)
 rw[Zv] at hL1
 have:=IsL.str_eq hL1
 subst this
 symm
 exact k l H1 hl1 e1 h1
theorem Lp {f:Addr}{fd:FuncData}(F:Fun K "ways_on" "Ways.ways_on" By f fd)(T:Fp mg){C_Ways:Addr}(k_Ways:Ji K C_Ways)(C2:Mtd P w K mg base 1 C_Ways "free_names" ["self","left"] (Cq C_Ways K))(n:Nat)(Dl:Mtd P w K mg base (2+n) C_Ways "ways_on" ["self","left"] (Ce C_Ways K n)):FnOk P w K mg base CX0 (2+n+1) f fd ["self","left"] (Ce C_Ways K (n+1)):=by
 refine F.ok Ny (λvs H Q E h=>?_) (λcdv A outer s H vs Q E hr h=>?_)
 . obtain⟨p,dx,nv,bd,ad,kd,ns,ps,kvs,q,rfl,_⟩:=h
   rfl
 obtain⟨p,dx,nv,bd,ad,kd,ns,ps,kvs,q,rfl,hA,hW,h10,hlt,k⟩:=h
 have hu:=Cc hr
 have hq:=Cd hr
 have hn:=hW.nd
 have hkl:=hA.ok.len h10
 have hLn:(ns.filter q).Nodup:=List.Nodup.sublist A4M hn
 have hLl:(ns.filter q).length<=ns.length:=A1Y _ _
 with_reducible refine⟨_,(A5 (Bc (Ai (Ga (K:=K) hq) (pv 1) (Dx (C:=C_Ways) (pv 0) k_Ways.cl k_Ways.n_known ⋯) ⋯) (A7 (Dn hu (Dx (C:=C_Ways) (pv 0) k_Ways.cl k_Ways.n_known ⋯) (pv 1) (Ag (Sl (K:=K) ⋯) ⋯ T.b_sum PyProof.Rows.Boot.«sum» (A3 (Eu ["name"] ["self","left"] [0,1] ⋯ ⋯ ⋯ (Bs (K:=K) hu (Uv (C:=C_Ways) (pv 0) k_Ways.cl C2 (hr.mono (by omega)) (A3 (pv 1) A4))) (λ_ _ _ _=>(B4 (i:=0) (by with_unfolding_all (show(["name","self","left"]:List Str).Nodup;decide +kernel)) ⋯ (by eq_refl))) (Ed ∅) (λ_ _ _ _=>G2) (λ_ _ _ _=>(Uv (C:=C_Ways) (pv 1) k_Ways.cl Dl (hr.mono (by omega)) (A3 (B3 Y3 (pv 2) (Af (A8 (K:=K) hu) (Dx (C:=C_Ways) (pv 1) k_Ways.cl k_Ways.n_bits ⋯) (pv 0) (by ac_rfl))) A4)))) A4)) ⋯)) Am)
  (A7 (Ap (Af (A8 (K:=K) hu) (Dx (C:=C_Ways) (pv 0) k_Ways.cl k_Ways.n_known ⋯) (pv 1) (by ac_rfl))))),?_⟩
 symm
 refine Kb hA.ob (by rfl) ?_
 refine Qs hA.kn ?_
 symm
 cases hv:Dj kvs (Sum.inl ((Ez ns q:Nat):Int):Key) with
 | some v=>
   have:=hA.ok.get hv
   subst this
   refine iteF ?_
   symm
   refine Kb hA.ob (by rfl) ?_
   symm
   refine T1 hA.kn hv ?_
   exact k kvs H .refl hA
 | none=>
   have hne:ns.filter q≠[]:=λe=>by
    have h0:Ez ns q=0:=binM_zero.mpr λx hx=>by
     cases c:q x with
     | false=>rfl
     | true=>
       have:x∈ns.filter q:=A21.mpr ⟨hx,c⟩
       rw[e] at this
       cases this
    rw[h0] at hv
    rw[show((0:Nat):Int)=0 from rfl,hA.ok.2.2] at hv
    cases hv
   refine iteT ?_
   symm
   refine an6 hA.ob (by rfl) ?_
   symm
   refine⟨p,dx,nv,bd,ad,kd,ns,ps,kvs,q,rfl,hA,hW,h10,λl H1 hl1 e1 h1=>?_⟩
   have hA1:=hA.same e1
   refine aj7 (SqL.of h1) ?_
   refine Ro (Mi (xs:=(frF (Ka ps) (ns.filter q)).map V.str)) (λpl i acc H2=>∃ kvs2,ExtBut kd H1 H2/\WaysAt K C_Ways H2 p dx nv bd ad kd ns ps kvs2/\acc=((frF (Ka ps) (ns.filter q)).take i).map λx=>V.int ((cnt (Ka ps) (Gp (ns.filter q) x):Nat):Int))
    (λpl H' hp' e' h'=>⟨kvs,e'.but,hA1.same e',rfl⟩) (λpl i acc H2 hP=>?_) (λpl i x acc H2 hpl hx hi hl hpa hP=>?_) (λpl acc H2 hpl hpa hal hP=>?_)
   . obtain⟨kvs2,e2,_,_⟩:=hP
     exact SqL.of (e2 _ _ (ne_of h1 hA1.kn (by intro z;cases z)) h1)
   . obtain ⟨kvs2,e2,hA2,rfl⟩:=hP
     rw[A0A] at hx
     cases hz:(frF (Ka ps) (ns.filter q))[i]? with
     | none=>rw[hz] at hx;cases hx
     | some z=>
       rw[hz] at hx
       cases hx
       have hzf:=A04 hz
       have hzL:=(mem_frF.mp hzf).1
       have hzn:=(A21.mp hzL).1
       have hqz:=(A21.mp hzL).2
       have hsub:=Zl hn hzn hqz
       have hlen:=Ix hLn hzL
       symm
       refine an6 hA2.ob (by rfl) ?_
       symm
       refine Kb hA2.ob (by rfl) ?_
       symm
       refine i_ixD hA2.bt (Nl hzn) ?_
       symm
       have hval:((Ez ns q:Nat):Int)-((Fq ns z:Nat):Int)=((Ez ns (λy=>q y && !decide (y=z)):Nat):Int):=by omega
       rw[hval]
       refine⟨p,dx,nv,bd,ad,kd,ns,ps,kvs2,_,rfl,hA2,hW,h10,by rw[Mp];omega,λkvs3 H3 e3 hA3=>?_⟩
       rw[Mp]
       have hplk:pl≠kd:=ne_of hpa hA2.kn (by intro z;cases z)
       have h3p:=e3 _ _ hplk hpa
       refine W5 (by rw[A00];exact A0L (A1Y _ _) (by omega)) hi hl h3p λH4 e4 h4=>?_
       refine⟨kvs3,?_,hA3.list e4 h3p,?_⟩
       . exact(e2.trans e3).off hpl e4
       rw[A12,hz]
       simp
   obtain⟨kvs2,e2,hA2,rfl⟩:=hP
   rw[A00,A17] at hpa
   have hmm:(frF (Ka ps) (ns.filter q)).map (λx=>V.int ((cnt (Ka ps) (Gp (ns.filter q) x):Nat):Int))=((frF (Ka ps) (ns.filter q)).map λx=>((cnt (Ka ps) (Gp (ns.filter q) x):Nat):Int)).map V.int:=by rw[A1K];rfl
   rw[hmm] at hpa
   symm
   refine aC6 (.inl (SqL.of hpa)) (λn' hn'=>?_) (by rw[A00];exact A0L (A1Y _ _) (by omega)) ?_
   . obtain⟨y,hy,rfl⟩:=A0I.mp hn'
     have:=Ix hLn (mem_frF.mp hy).1
     have:=ap8 (b:=Ka ps) (Mv hLn y) (by omega)
     omega
   rw[M5,<- af7 hLn hne]
   symm
   refine Kb hA2.ob (by rfl) ?_
   symm
   have hkl2:=hA2.ok.len h10
   refine Uq hA2.kn (by omega) λH3 e3 h3=>?_
   have hA3:=hA2.put e3 h3 (hA2.ok.put q)
   symm
   refine Kb hA3.ob (by rfl) ?_
   symm
   refine T1 hA3.kn (by rw[Mc,A11 rfl]) ?_
   exact k _ H3 (((e1.but (d:=kd)).trans e2).trans e3) hA3
theorem Ob {f:Addr}{fd:FuncData}(F:Fun K "ways_on" "Ways.ways_on" By f fd)(T:Fp mg){C_Ways:Addr}(k_Ways:Ji K C_Ways)(C2:Mtd P w K mg base 1 C_Ways "free_names" ["self","left"] (Cq C_Ways K))(hm:aq7 K C_Ways "ways_on" f)(hb:Binds K fd ["self","left"] []):FnOk P w K mg base CX0 13 f fd ["self","left"] (Gc C_Ways K):=by
 have h:∀ n:Nat,FnOk P w K mg base CX0 (2+n) f fd ["self","left"] (Ce C_Ways K n):=λn=>by
  induction n with
  | zero=>exact FnOk.void Iw
  | succ n ih=>exact Lp F T k_Ways C2 n ⟨f,fd,ih,hm,hb⟩
 exact h 11
theorem ad0 {f:Addr}{fd:FuncData}(F:Fun K "count" "count" Kx f fd)(T:Fp mg){C_Ways:Addr}(k_Ways:Ji K C_Ways)(Jt:Mkd P w K mg base 3 C_Ways "Ways" ["self","half"] (J6 C_Ways K))(Dl:Mtd P w K mg base 13 C_Ways "ways_on" ["self","left"] (Gc C_Ways K)):FnOk P w K mg base CX0 14 f fd ["half"] (Qv K):=by
 refine F.ok Vo (λvs H Q E h=>?_) (λcdv A outer s H vs Q E hr h=>?_)
 . obtain⟨v,ns,ps,rfl,_⟩:=h
   rfl
 obtain⟨v,ns,ps,rfl,hI,hW,h10,k⟩:=h
 have hu:=Cc hr
 have hq:=Cd hr
 with_reducible refine⟨_,(A5 (Al (i:=1) Vo.nd ⋯ (by eq_refl) (ad4 Jt (hr.mono ∅) ⋯ (A3 (pv 0) A4)))
  (A7 (Ap (Uv (C:=C_Ways) (pv 1) k_Ways.cl Dl (hr.mono ∅) (A3 (Dx (C:=C_Ways) (pv 1) k_Ways.cl k_Ways.n_full ⋯) A4))))),?_⟩
 symm
 refine aD1 λp dx H1 hp1 e1 h1=>?_
 refine⟨p,v,dx,ns,ps,rfl,h1,hI.hf_fz e1.fz,hW,h10,λnv bd ad kd kvs H2 hk2 e2 hA=>⟨rfl,?_⟩⟩
 symm
 refine an6 hA.ob (by rfl) ?_
 symm
 refine Kb hA.ob (by rfl) ?_
 symm
 have hfl:ns.filter (λ_=>true)=ns:=by simp
 refine⟨p,dx,nv,bd,ad,kd,ns,ps,kvs,λ_=>true,rfl,hA,hW,h10,by rw[hfl];omega,λkvs' H3 e3 hA3=>?_⟩
 rw[hfl]
 exact k H3 ((e1.off hp1 e2).off (e1.free hk2) e3)
def nuD (ms:List Nat):PyData:=.tuple ((ms.map λm=>((m:Nat):Int)).map PyData.int)
theorem Vb:∀ {ms:List Nat},(∀ m∈ms,m<=4000000)->PyData.showableAll ((ms.map λm=>((m:Nat):Int)).map PyData.int)=true/\PyData.canLayAll0 ((ms.map λm=>((m:Nat):Int)).map PyData.int)=true/\PyData.intsShortAll 13 ((ms.map λm=>((m:Nat):Int)).map PyData.int)=true /\
  PyData.weightAll ((ms.map λm=>((m:Nat):Int)).map PyData.int)<=40*ms.length/\PyData.depthAll ((ms.map λm=>((m:Nat):Int)).map PyData.int)<=1
 | [],_=>by simp[PyData.showableAll,PyData.canLayAll0,PyData.intsShortAll,PyData.weightAll,PyData.depthAll]
 | m :: ms,h=>by
   obtain⟨h1,h2,h3,h4,h5⟩:=Vb (ms:=ms) λx hx=>h x (by simp[hx])
   have hm:=h m nofun
   have hlog:m.log2<30:=by
    rcases Nat.eq_zero_or_pos m with rfl | h0
    . decide
    exact(Nat.log2_lt (by omega)).mpr (by omega)
   have hlen:=A4P (i:=((m:Nat):Int)) (by rw[A4V];omega)
   refine⟨?_,?_,?_,?_,?_⟩
   . simp only[List.map_cons,PyData.showableAll,PyData.showable,Int.natAbs_natCast,h1,Bool.and_true,decide_eq_true_eq]
     omega
   . simp only[List.map_cons,PyData.canLayAll0,PyData.canLay0,h2,Bool.and_self]
   . simp only[List.map_cons,PyData.intsShortAll,PyData.intsShort,h3,Bool.and_true,decide_eq_true_eq]
     exact hlen
   . simp only[List.map_cons,PyData.weightAll,PyData.weight,Int.natAbs_natCast,List.length_cons]
     split<;>omega
   simp only[List.map_cons,PyData.depthAll,PyData.depth]
   omega
theorem aD9 {ms:List Nat}(h:∀ m∈ms,m<=4000000)(hl:ms.length<=1000):Sh (nuD ms):=by
 obtain⟨h1,h2,h3,h4,h5⟩:=Vb h
 refine⟨rfl,by unfold nuD;simp only[PyData.showable];exact h1,?_,by unfold nuD;simp only[PyData.depth];omega⟩
 have g:=PyData.shown_le 13 ∅ (nuD ms) (PyData.leavesShort_of_canLay0 13 (nuD ms) (by unfold nuD;simp only[PyData.canLay0];exact h2) (by unfold nuD;simp only[PyData.intsShort];exact h3))
 have hw:(nuD ms).weight<=40*ms.length:=by unfold nuD;simp only[PyData.weight];exact h4
 rw[A14]
 omega
def spV:Sp:=λ_ _ _ _=>False
def Rc (K:PySem.W.Frag):Sp:=spV
def Jp (C:Addr)(K:PySem.W.Frag):Sp:=spV
def Jq (C:Addr)(K:PySem.W.Frag):Sp:=spV
theorem a88 {f:Addr}{fd:FuncData}(F:Fun K "_wall" "_wall" Nk f fd)(T:Fp mg):FnOk P w K mg base CX0 1 f fd ["k"] (Rc K):=FnOk.void λvs H Q E h=>h
local macro_rules | `(tactic| walk_at "rq1") => L2.mAlts "i_sRaise i_tMeth"
def Refz (H:Hp)(C:Addr)(x:Str)(E:XK):Prop:=∀ a H',Same H H'->ExB false H' a C [("name",.str x)]->E (.ref a) none H'
theorem Refz.mono {H H':Hp}{C:Addr}{x:Str}{E:XK}(h:Refz H C x E)(e:Same H H'):Refz H' C x E:=λa H2 e2 hE=>h a H2 (e.trans e2) hE
def ae6 (ns xs:List Str)(z:Str):Prop:=∃ as bs,xs=as++z :: bs/\(∀ y∈as,y∈ns)/\z∉ns
def Bh (C:Addr)(K:PySem.W.Frag):Sp:=λvs H Q E=>∃ v u ns ps xs,vs=[v,u]/\Is K H (hfD ns ps) v/\Is K H (nmD xs) u/\((∃ z,ae6 ns xs z/\Refz H C z E)\/((∀ z∈xs,z∈ns)/\Q .non H))
theorem Jl {f:Addr}{fd:FuncData}(F:Fun K "refuse_strangers" "refuse_strangers" Be f fd)(T:Fp mg){C_HalfError:Addr}{C_NoName:Addr}(x_HalfError:Ao K mg C_HalfError C_HalfError)(x_NoName:Bv K mg C_NoName C_HalfError)(Hn:Mkx P w K mg base 1 C_NoName "NoName" ["self","name"] (spX C_NoName ["name"])):FnOk P w K mg base (CX1 P w) 3 f fd ["half","asked"] (Bh C_NoName K):=by
 refine F.ok1 G7 (λvs H Q E h=>?_) (λcdv A outer s H vs Q E hr h=>?_)
 . obtain⟨v,u,ns,ps,xs,rfl,_⟩:=h
   rfl
 obtain⟨v,u,ns,ps,xs,rfl,hI,hU,hk⟩:=h
 have hu:=Cc hr
 have hq:=Cd hr
 with_reducible refine⟨_,(A7 (Hi PassesOwn.leaving ⋯ (Bs (K:=K) hu (pv 1)) (B4 (i:=2) G7.nd ⋯ (by eq_refl))
  (A7 (Bc (Ai (Ga (K:=K) hq) (pv 2) (Af (A8 (K:=K) hu) (pv 0) A9 (by ac_rfl)) ⋯) (A7 (Jj ⋯ (Wh Hn (hr.mono ∅) ⋯ (A3 (pv 2) A4)))) Am)))),?_⟩
 symm
 refine Ko hU (λi σ H1=>∃ x2,σ=[some v,some u,x2]/\H1=H/\∀ y∈xs.take i,y∈ns) ⟨_,rfl,rfl,by simp⟩ (λi σ' H' hP=>?_) (λi z σ' H1 hz hP=>?_) (fun σ' H1 hP=>?_)
 . obtain⟨_,_,rfl,_⟩:=hP
   exact .refl _
 . obtain⟨x2,rfl,rfl,hi⟩:=hP
   symm
   refine Ql hI λnv hN=>?_
   refine Sy hN ?_
   symm
   refine Wz (λhc=>?_) (λhc=>?_)
   . rcases hk with ⟨x,⟨as,bs,rfl,ha,hx⟩,k⟩ | ⟨hall,_⟩
     . have e:z=x:=by
        rcases Nat.lt_trichotomy i as.length with lt | e | gt
        . exact absurd (ha z (A04 (by rwa[A1B lt] at hz))) hc
        . rw[e,A2S (A07 _),Nat.sub_self] at hz
          exact(A0R hz).symm
        exact absurd (hi x (List.mem_take_iff_getElem.mpr ⟨as.length,by simp;omega,by simp⟩)) hx
       subst e
       symm
       refine a84 (by rfl) ∅ λa H2 ha2 e2 hE=>?_
       symm
       exact Kz hE x_NoName.xc ha2 λH3 kp hE3=>k a H3 (λb o q=>kp b o (ne_of_none q ha2) (e2 _ _ q)) hE3
     exact absurd (hall z (A04 hz)) hc
   symm
   refine⟨_,rfl,rfl,λy hy=>?_⟩
   rw[A12,hz] at hy
   rcases A0B.mp hy with h | h
   . exact hi y h
   have:y=z:=by simpa using h
   exact this ▸ hc
 obtain⟨x2,rfl,rfl,hi⟩:=hP
 rw[A17] at hi
 rcases hk with ⟨x,⟨as,bs,rfl,ha,hx⟩,k⟩ | ⟨hall,k⟩
 . exact absurd (hi x nofun) hx
 exact k
def enD (e:Nat×(Str×Str)):PyData:=.tuple [.int ((e.1:Nat):Int),prD e.2]
def ar9 (es:List (Nat×(Str×Str)))(n:Nat):PyData:=.tuple [.tuple (es.map enD),.int ((n:Nat):Int)]
abbrev SS:=List (Nat×(Str×Str))×Nat
def nwD (S:SS):PyData:=ar9 S.1 S.2
structure Vs (ns:List Str)(es:List (Nat×(Str×Str)))(n:Nat):Prop where
 mem:∀ e∈es,e.2.1∈ns/\e.2.2∈ns
 irr:∀ x,¬ Way (es.map (·.2)) x x
 le:es.length<=60
 so:(es.map (·.1)).Pairwise (· < ·)
 lt:∀ e∈es,e.1<n
 big:n<=1000
structure KpAt (K:PySem.W.Frag)(C:Addr)(H:Hp)(p:Addr)(ns:List Str)(es:List (Nat×(Str×Str)))(n:Nat):Prop where
 ex:∃ dx nv w pv0 uv,H p=some (.ins C dx [("names",nv),("now",.ref w),("past",pv0),("undone",uv)])/\Is K H (nmD ns) nv/\Is K H (ar9 es n) (.ref w)
 nd:Names ns
 few:ns.length<=10
 mem:∀ e∈es,e.2.1∈ns/\e.2.2∈ns
 irr:∀ x,¬ Way (es.map (·.2)) x x
 le:es.length<=60
theorem Ju (es:List (Nat×(Str×Str)))(n:Nat):frz (ar9 es n)=true:=by simp[ar9,frz,Oh,Gh enD (λe=>by simp[enD,frz,Oh,Jo])]
theorem KpAt.same {K:PySem.W.Frag}{C:Addr}{H H':Hp}{p:Addr}{ns:List Str}{es:List (Nat×(Str×Str))}{n:Nat}(h:KpAt K C H p ns es n)(e:Same H H'):KpAt K C H' p ns es n:=by
 obtain⟨dx,nv,w,pv0,uv,h1,h2,h3⟩:=h.ex
 exact⟨⟨dx,nv,w,pv0,uv,e _ _ h1,h2.nm_fz e.fz,Is.mono e _ _ h3⟩,h.nd,h.few,h.mem,h.irr,h.le⟩
def B8 (C:Addr)(K:PySem.W.Frag):Sp:=λvs H Q _=>∃ p ns es n,vs=[.ref p]/\KpAt K C H p ns es n/\∀ u H',Same H H'->Is K H' (hfD ns (es.map (·.2))) u->Q u H'
def Eo (C:Addr)(K:PySem.W.Frag):Sp:=λvs H Q _=>∃ p ns es n,vs=[.ref p]/\KpAt K C H p ns es n/\∀ u H',Same H H'->Is K H' (jsD (es.map (·.1))) u->Q u H'
theorem am1 (es:List (Nat×(Str×Str))):frz (.tuple (es.map enD))=true:=by
 simp only[frz]
 exact Gh _ (λe=>by simp[enD,frz,Oh,Jo]) es
theorem K1 {K:PySem.W.Frag}{H:Hp}{d:PyData}{ds:List PyData}{vs:List V}(h:IsL K H (d :: ds) vs):∃ v us,vs=v :: us/\Is K H d v/\IsL K H ds us:=by simpa only[L2.IsL] using h
theorem Jb {K:PySem.W.Frag}{H:Hp}{vs:List V}(h:IsL K H [] vs):vs=[]:=by simpa only[L2.IsL] using h
theorem Nu {K:PySem.W.Frag}{H:Hp}{z:Int}{v:V}(h:Is K H (.int z) v):v = .int z:=by simpa only[Is] using h
theorem Si {K:PySem.W.Frag}{H:Hp}{d1 d2:PyData}{v:V}(h:Is K H (.tuple [d1,d2]) v):∃ a x y,v = .ref a/\SqT K H a [x,y]/\Is K H d1 x/\Is K H d2 y:=by
 obtain⟨a,xs,rfl,hS,hL⟩:=h.tup
 obtain⟨x,us,rfl,h1,hL⟩:=K1 hL
 obtain⟨y,us2,rfl,h2,hL⟩:=K1 hL
 have:=Jb hL
 subst this
 exact⟨a,x,y,rfl,hS,h1,h2⟩
theorem Tp {K:PySem.W.Frag}{H:Hp}{e:Nat×(Str×Str)}{v:V}(h:Is K H (enD e) v):∃ a x,v = .ref a/\SqT K H a [.int ((e.1:Nat):Int),x]/\Is K H (prD e.2) x:=by
 obtain⟨a,x,y,rfl,hS,h1,h2⟩:=Si h
 have:=Nu h1
 subst this
 exact⟨a,y,rfl,hS,h2⟩
theorem Px {K:PySem.W.Frag}{H:Hp}{es:List (Nat×(Str×Str))}{n:Nat}{w:Addr}(h:Is K H (ar9 es n) (.ref w)):∃ t xs,SqT K H w [.ref t,.int ((n:Nat):Int)]/\SqT K H t xs/\IsL K H (es.map enD) xs:=by
 obtain⟨a,x,y,e,hS,h1,h2⟩:=Si h
 cases e
 obtain⟨t,xs,rfl,hT,hL⟩:=h1.tup
 have:=Nu h2
 subst this
 exact⟨t,xs,hS,hT,hL⟩
theorem Oz {f:Addr}{fd:FuncData}(F:Fun K "half" "Keeper.half" De f fd)(T:Fp mg){C_Keeper:Addr}(k_Keeper:Aq K C_Keeper):FnOk P w K mg base CX0 1 f fd ["self"] (B8 C_Keeper K):=by
 refine F.ok Oi (λvs H Q E h=>?_) (λcdv A outer s H vs Q E hr h=>?_)
 . obtain⟨p,ns,es,n,rfl,_⟩:=h
   rfl
 obtain⟨p,ns,es,n,rfl,hK,k⟩:=h
 have hu:=Cc hr
 have hq:=Cd hr
 obtain⟨dx,nv,w,pv0,uv,h1,h2,h3⟩:=hK.ex
 obtain⟨t,xs,hw,ht,hx⟩:=Px h3
 with_reducible refine⟨_,(A7 (Ap (B6 (A3 (Dx (C:=C_Keeper) (pv 0) k_Keeper.cl k_Keeper.n_names ⋯) (A3 (Ay (Bq (K:=K)) ⋯ T.b_tuple PyProof.Rows.Boot.«tuple» (A3 (Eu ["entry"] [] [] ⋯ ⋯ ⋯ (Bs (K:=K) hu (Af (A8 (K:=K) hu) (Dx (C:=C_Keeper) (pv 0) k_Keeper.cl k_Keeper.n_now ⋯) A9 (by ac_rfl))) (λ_ _ _ _=>(B4 (i:=0) (by with_unfolding_all (show(["entry"]:List Str).Nodup;decide +kernel)) ⋯ (by eq_refl))) (Ed ∅) (λ_ _ _ _=>G2) (λ_ _ _ _=>(Af (A8 (K:=K) hu) (pv 0) A9 (by ac_rfl)))) A4)) A4))))),?_⟩
 symm
 refine Kb h1 (by rfl) ?_
 symm
 refine Kb h1 (by rfl) ?_
 symm
 refine Ej hw (show atI _ 0=some (.ref t) from rfl) ?_
 symm
 refine Pc ht (Gj (K:=K) (Fb (xs:=xs)) es (by rw[<- IsL.length hx,A00]) (λ_=>true) (λe=>prD e.2) (λ_=>Jo _) (by have:=hK.le;rw[<- IsL.length hx,A00];omega) (λH' e=>e.seqT ht) (λi e v H1 R R' he hv e1 hR hR'=>?_) (λq us H1 hq1 e1 hq hL1=>?_))
 . obtain⟨D,hD,hI⟩:=IsL.get hx hv
   rw[A0A,he] at hD
   cases hD
   obtain⟨a,x,rfl,hS,hP⟩:=Tp (Is.mono e1 _ _ hI)
   symm
   refine Ej hS (show atI _ 1=some x from rfl) ?_
   exact hR rfl _ _ (.refl _) hP
 rw[Ex] at hL1
 symm
 refine a55 (ps:=es.map (·.2)) hq (by rw[A1K];exact hL1) λu2 H2 e2 hu2=>?_
 symm
 refine Az (Aa nofun) λt3 H3 ht3 e3 h3'=>?_
 exact k _ H3 ((e1.trans e2).trans e3) (au3 (SqT.of h3') (h2.nm_fz ((e1.trans e2).trans e3).fz) (Is.mono e3 _ _ hu2))
theorem Lc {f:Addr}{fd:FuncData}(F:Fun K "numbers" "Keeper.numbers" Bt f fd)(T:Fp mg){C_Keeper:Addr}(k_Keeper:Aq K C_Keeper):FnOk P w K mg base CX0 1 f fd ["self"] (Eo C_Keeper K):=by
 refine F.ok Lf (λvs H Q E h=>?_) (λcdv A outer s H vs Q E hr h=>?_)
 . obtain⟨p,ns,es,n,rfl,_⟩:=h
   rfl
 obtain⟨p,ns,es,n,rfl,hK,k⟩:=h
 have hu:=Cc hr
 have hq:=Cd hr
 obtain⟨dx,nv,w,pv0,uv,h1,h2,h3⟩:=hK.ex
 obtain⟨t,xs,hw,ht,hx⟩:=Px h3
 with_reducible refine⟨_,(A7 (Ap (Ay (Bq (K:=K)) ⋯ T.b_tuple PyProof.Rows.Boot.«tuple» (A3 (Eu ["entry"] [] [] ⋯ ⋯ ⋯ (Bs (K:=K) hu (Af (A8 (K:=K) hu) (Dx (C:=C_Keeper) (pv 0) k_Keeper.cl k_Keeper.n_now ⋯) A9 (by ac_rfl))) (λ_ _ _ _=>(B4 (i:=0) (by with_unfolding_all (show(["entry"]:List Str).Nodup;decide +kernel)) ⋯ (by eq_refl))) (Ed ∅) (λ_ _ _ _=>G2) (λ_ _ _ _=>(Af (A8 (K:=K) hu) (pv 0) A9 (by ac_rfl)))) A4)))),?_⟩
 symm
 refine Kb h1 (by rfl) ?_
 symm
 refine Ej hw (show atI _ 0=some (.ref t) from rfl) ?_
 symm
 refine Pc ht (Gj (K:=K) (Fb (xs:=xs)) es (by rw[<- IsL.length hx,A00]) (λ_=>true) (λe=>PyData.int ((e.1:Nat):Int)) (λ_=>rfl) (by have:=hK.le;rw[<- IsL.length hx,A00];omega) (λH' e=>e.seqT ht) (λi e v H1 R R' he hv e1 hR hR'=>?_) (λq us H1 hq1 e1 hq hL1=>?_))
 . obtain⟨D,hD,hI⟩:=IsL.get hx hv
   rw[A0A,he] at hD
   cases hD
   obtain⟨a,x,rfl,hS,hP⟩:=Tp (Is.mono e1 _ _ hI)
   symm
   refine Ej hS (show atI _ 0=some (.int ((e.1:Nat):Int)) from rfl) ?_
   exact hR rfl _ _ (.refl _) Gy
 rw[Ex] at hL1
 symm
 refine Fs (SqL.of hq) λt2 H2 ht2 e2 h2'=>?_
 exact k _ H2 (e1.trans e2) (Is.of_tup (SqT.of h2') (by rw[A1K];exact IsL.mono e2 _ _ hL1))
def aH3 (H:Hp)(C:Addr)(i:Int)(E:XK):Prop:=∀ a H',Same H H'->ExB false H' a C [("number",.int i)]->E (.ref a) none H'
def Cz (C C_NoSaying:Addr)(K:PySem.W.Frag):Sp:=λvs H Q E=>∃ p ns es n i,vs=[.ref p,.int i]/\KpAt K C H p ns es n/\(es.map (·.1)).Nodup/\(∀ e∈es,((e.1:Nat):Int)=i->∀ u,Is K H (prD e.2) u->Q u H)/\((∀ e∈es,((e.1:Nat):Int)≠i)->aH3 H C_NoSaying i E)
theorem Kv {f:Addr}{fd:FuncData}(F:Fun K "saying" "Keeper.saying" C4 f fd)(T:Fp mg){C_Keeper:Addr}(k_Keeper:Aq K C_Keeper){C_HalfError:Addr}{C_NoName:Addr}{C_NoSaying:Addr}(x_HalfError:Ao K mg C_HalfError C_HalfError)(x_NoName:Bv K mg C_NoName C_HalfError)(x_NoSaying:Dv K mg C_NoSaying C_HalfError)(G6:Mkx P w K mg base 1 C_NoSaying "NoSaying" ["self","number"] (spX C_NoSaying ["number"])):FnOk P w K mg base (CX1 P w) 3 f fd ["self","number"] (Cz C_Keeper C_NoSaying K):=by
 refine F.ok1 Ie (λvs H Q E h=>?_) (λcdv A outer s H vs Q E hr h=>?_)
 . obtain⟨p,ns,es,n,i,rfl,_⟩:=h
   rfl
 obtain⟨p,ns,es,n,i,rfl,hK,hnd,k1,k2⟩:=h
 have hu:=Cc hr
 have hq:=Cd hr
 obtain⟨dx,nv,w,pv0,uv,h1,h2,h3⟩:=hK.ex
 obtain⟨t,xs,hw,ht,hx⟩:=Px h3
 have hxl:xs.length=es.length:=by rw[<- IsL.length hx,A00]
 with_reducible refine⟨_,(A5 (Hi PassesOwn.leaving ⋯ (Bs (K:=K) hu (Af (A8 (K:=K) hu) (Dx (C:=C_Keeper) (pv 0) k_Keeper.cl k_Keeper.n_now ⋯) A9 (by ac_rfl))) (B4 (i:=2) Ie.nd ⋯ (by eq_refl))
  (A7 (Bc (Ai (B5 (K:=K) hq) (Af (A8 (K:=K) hu) (pv 2) A9 (by ac_rfl)) (pv 1) (An _)) (A7 (Ap (Af (A8 (K:=K) hu) (pv 2) A9 (by ac_rfl)))) Am)))
  (A7 (Jj ⋯ (Wh G6 (hr.mono ∅) ⋯ (A3 (pv 1) A4))))),?_⟩
 symm
 refine Kb h1 (by rfl) ?_
 symm
 refine Ej hw (show atI _ 0=some (.ref t) from rfl) ?_
 symm
 refine Pc ht ?_
 refine Sv (Fb (xs:=xs)) (λj σ H1=>∃ x2,σ=[some (.ref p),some (.int i),x2]/\H1=H/\∀ e∈es.take j,((e.1:Nat):Int)≠i) ⟨_,rfl,rfl,λe he=>by cases he⟩ (λj σ' H' hP=>?_) (λj x σ' H1 hxj hj hP=>?_) (fun σ' H1 hP=>?_)
 . obtain⟨_,_,rfl,_⟩:=hP
   exact ht
 . obtain⟨x2,rfl,rfl,hno⟩:=hP
   obtain⟨D,hD,hI⟩:=IsL.get hx hxj
   rw[A0A] at hD
   obtain⟨e,he,rfl⟩:=A1L.mp hD
   obtain⟨a,y,rfl,hS,hP⟩:=Tp hI
   symm
   refine Ej hS (show atI _ 0=some (.int ((e.1:Nat):Int)) from rfl) ?_
   symm
   refine Fh (λhc=>?_) (λhc=>?_)
   . symm
     refine Ej hS (show atI _ 1=some y from rfl) ?_
     injection hc with hc
     exact k1 e (A04 he) hc y hP
   symm
   refine⟨_,rfl,rfl,λe' he'=>?_⟩
   rw[A12,he] at he'
   rcases A0B.mp he' with q | q
   . exact hno e' q
   have:e'=e:=by simpa using q
   rw[this]
   exact λq=>hc (by rw[q])
 obtain⟨x2,rfl,rfl,hno⟩:=hP
 rw[hxl,A17] at hno
 have kk:=k2 hno
 symm
 refine a84 (by rfl) ∅ λa H4 ha4 e4 hE=>?_
 symm
 exact Kz hE x_NoSaying.xc ha4 λH5 kp hE5=>kk a H5 (λb o q=>kp b o (ne_of_none q ha4) (e4 _ _ q)) hE5
def Cp (C:Addr)(K:PySem.W.Frag):Sp:=λvs H Q _=>∃ p ns es n x y,vs=[.ref p,.str x,.str y]/\KpAt K C H p ns es n/\∀ u H',Same H H'->((u = .non/\¬ x=y/\¬ Way (es.map (·.2)) x y)\/∃ js os,Is K H' (jsD (js.map λj=>(es.getD j (0,("",""))).1)) u/\js.length<=1000/\Trl (es.map (·.2)) x js y os)->Q u H'
theorem Kf {f:Addr}{fd:FuncData}(F:Fun K "way_kept" "Keeper.way_kept" Bl f fd)(T:Fp mg){C_Keeper:Addr}(k_Keeper:Aq K C_Keeper)(Fn:Fnd P w K mg base 1 "way_by_sayings" ["sayings","start","goal"] (En K))(Ah:Mtd P w K mg base 1 C_Keeper "half" ["self"] (B8 C_Keeper K)):FnOk P w K mg base CX0 2 f fd ["self","name","other"] (Cp C_Keeper K):=by
 refine F.ok Gk (λvs H Q E h=>?_) (λcdv A outer s H vs Q E hr h=>?_)
 . obtain⟨p,ns,es,n,x,y,rfl,_⟩:=h
   rfl
 obtain⟨p,ns,es,n,x,y,rfl,hK,k⟩:=h
 have hu:=Cc hr
 have hq:=Cd hr
 obtain⟨dx,nv,w,pv0,uv,h1,h2,h3⟩:=hK.ex
 with_reducible refine⟨_,(A5 (Al (i:=3) Gk.nd ⋯ (by eq_refl) (Bo Fn (hr.mono ∅) ⋯ (A3 (Af (A8 (K:=K) hu) (Ln (C:=C_Keeper) (pv 0) k_Keeper.cl Ah (hr.mono ∅)) A9 (by ac_rfl)) (A3 (pv 1) (A3 (pv 2) A4)))))
  (A5 (Bc (Ai Zi (pv 3) Ih (An _)) (A7 (Ap Ih)) Am)
  (A7 (Ap (Ay (Bq (K:=K)) ⋯ T.b_tuple PyProof.Rows.Boot.«tuple» (A3 (Eu ["place"] ["self"] [0] ⋯ ⋯ ⋯ (Bs (K:=K) hu (pv 3)) (λ_ _ _ _=>(B4 (i:=0) (by with_unfolding_all (show(["place","self"]:List Str).Nodup;decide +kernel)) ⋯ (by eq_refl))) (Ed ∅) (λ_ _ _ _=>G2) (λ_ _ _ _=>(Af (A8 (K:=K) hu) (Af (A8 (K:=K) hu) (Af (A8 (K:=K) hu) (Dx (C:=C_Keeper) (pv 1) k_Keeper.cl k_Keeper.n_now ⋯) A9 (by ac_rfl)) (pv 0) (by ac_rfl)) A9 (by ac_rfl)))) A4)))))),?_⟩
 symm
 refine Jm h1 (by rfl) ?_
 symm
 refine⟨p,ns,es,n,rfl,hK,λu1 H1 e1 hu1=>?_⟩
 symm
 refine Yc hu1 λpv hP=>?_
 symm
 refine⟨pv,x,y,es.map (·.2),rfl,hP,by rw[A00];have:=hK.le;omega,λu2 H2 e2 hres=>?_⟩
 have e02:=e1.trans e2
 symm
 rcases hres with ⟨rfl,hne,hnw⟩ | ⟨js,os,hj1,hj2,hj3⟩
 . symm
   exact k .non H2 e02 (.inl ⟨rfl,hne,hnw⟩)
 obtain⟨ja,jx,rfl,hjS,hjL⟩:=Is.tup hj1
 obtain⟨t,xs,hw,ht,hx⟩:=Px h3
 have hxl:xs.length=es.length:=by rw[<- IsL.length hx,A00]
 refine Fh (λq=>by cases q) (λ_=>?_)
 symm
 refine Pc hjS (Gj (K:=K) (Fb (xs:=jx)) js (by rw[<- IsL.length hjL,A00]) (λ_=>true) (λj=>PyData.int (((es.getD j (0,("",""))).1:Nat):Int)) (λ_=>rfl) (by rw[<- IsL.length hjL,A00];omega) (λH' e=>e.seqT hjS) (λi j v H3 R R' hj hv e3 hR hR'=>?_) (λq us H3 hq3 e3 hq hL3=>?_))
 . obtain⟨D,hD,hI⟩:=IsL.get hjL hv
   rw[A0A,hj] at hD
   cases hD
   have:=Nu hI
   subst this
   obtain⟨a1,b1,_,_,hps⟩:=hj3.ed i j hj
   rw[A0A] at hps
   obtain⟨e,he,_⟩:=A1L.mp hps
   have e03:=e02.trans e3
   obtain⟨ev,hev,hEv⟩:=IsL.at hx (show(es.map enD)[j]? = some (enD e) by rw[A0A,he];rfl)
   obtain⟨ea,ex,rfl,hS,_⟩:=Tp (Is.mono e03 _ _ hEv)
   symm
   refine Kb (e03 _ _ h1) (by rfl) ?_
   symm
   refine Ej (e03.seqT hw) (show atI _ 0=some (.ref t) from rfl) ?_
   symm
   refine Ej (e03.seqT ht) (show atI _ _=some (.ref ea) from C5 hev) ?_
   symm
   refine Ej hS (show atI _ 0=some (.int ((e.1:Nat):Int)) from rfl) ?_
   refine hR rfl _ _ (.refl _) ?_
   rw[A3M,he]
   exact Gy
 rw[Ex] at hL3
 symm
 refine Fs (SqL.of hq) λt4 H4 ht4 e4 h4'=>?_
 exact k _ H4 ((e02.trans e3).trans e4) (.inr ⟨js,os,Is.of_tup (SqT.of h4') (by rw[A1K];exact IsL.mono e4 _ _ hL3),hj2,hj3⟩)
def knV (ps:List (Str×Str))(x y:Str):V:=if Ka ps x y=true then .bl true else if Ka ps y x=true\/x=y then .bl false else .non
theorem KpAt.c {K:PySem.W.Frag}{C:Addr}{H:Hp}{p:Addr}{ns:List Str}{es:List (Nat×(Str×Str))}{n:Nat}(h:KpAt K C H p ns es n):HalfW ns (es.map (·.2)):=
 ⟨h.nd.1,λq hq=>by obtain⟨e,he,rfl⟩:=A0I.mp hq;exact h.mem e he,h.irr,A0L h.few ∅,by rw[A00];exact A0L h.le ∅⟩
theorem Yu {ns:List Str}(x y:Str):(∃ z,ae6 ns [x,y] z)\/(x∈ns/\y∈ns):=by
 by_cases hx:x∈ns
 . by_cases hy:y∈ns
   . exact .inr ⟨hx,hy⟩
   exact .inl ⟨y,[x],[],rfl,λz hz=>by rw[A15.mp hz];exact hx,hy⟩
 exact .inl ⟨x,[],[y],rfl,λz hz=>(by cases hz),hx⟩
theorem R0 {t:TT}{ta tb:TE}{σ:L2.St}{H:Hp}{Q:VK}(k:t σ H λc H1=>if c=true then ta σ H1 Q else tb σ H1 Q):tIf t ta tb σ H Q:=k
def aw3 (K:PySem.W.Frag)(H:Hp)(es:List (Nat×(Str×Str)))(x y:Str)(u:V):Prop:=(u = .non/\(x=y\/¬ Way (es.map (·.2)) x y))\/∃ js os,x≠y/\Is K H (jsD (js.map λj=>(es.getD j (0,("",""))).1)) u/\js.length<=1000/\Trl (es.map (·.2)) x js y os
def G3 (C C_NoName:Addr)(K:PySem.W.Frag):Sp:=λvs H Q E=>∃ p ns es n x y,vs=[.ref p,.str x,.str y]/\KpAt K C H p ns es n/\(∀ z,ae6 ns [x,y] z->Refz H C_NoName z E)/\(x∈ns->y∈ns->∀ u H',Same H H'->aw3 K H' es x y u->Q u H')
def Fj (C C_NoName:Addr)(K:PySem.W.Frag):Sp:=λvs H Q E=>∃ p ns es n x y,vs=[.ref p,.str x,.str y]/\KpAt K C H p ns es n/\(∀ z,ae6 ns [x,y] z->Refz H C_NoName z E)/\(x∈ns->y∈ns->∀ H',Same H H'->Q (knV (es.map (·.2)) x y) H')
theorem Lu {f:Addr}{fd:FuncData}(F:Fun K "knows" "Keeper.knows" Cj f fd)(T:Fp mg){C_Keeper:Addr}(k_Keeper:Aq K C_Keeper){C_HalfError:Addr}{C_NoName:Addr}(x_HalfError:Ao K mg C_HalfError C_HalfError)(x_NoName:Bv K mg C_NoName C_HalfError)(Cy:Fnd P w K mg base 1 "behind_each" ["half"] (Fa K))(Ah:Mtd P w K mg base 1 C_Keeper "half" ["self"] (B8 C_Keeper K))(At:av9 P w K mg base 3 "refuse_strangers" ["half","asked"] (Bh C_NoName K)):FnOk P w K mg base (CX1 P w) 4 f fd ["self","name","other"] (Fj C_Keeper C_NoName K):=by
 refine F.ok1 Iu (λvs H Q E h=>?_) (λcdv A outer s H vs Q E hr h=>?_)
 . obtain⟨p,ns,es,n,x,y,rfl,_⟩:=h
   rfl
 obtain⟨p,ns,es,n,x,y,rfl,hK,k1,k2⟩:=h
 have hu:=Cc hr
 have hq:=Cd hr
 obtain⟨dx,nv,w,pv0,uv,h1,h2,h3⟩:=hK.ex
 with_reducible refine⟨_,(A5 (Bf (Y4 At (hr.mono ∅) ⋯ Vn (A3 (Ln (C:=C_Keeper) (pv 0) k_Keeper.cl Ah (hr.mono ∅)) (A3 (B6 (A3 (pv 1) (A3 (pv 2) A4))) A4))))
  (A5 (Al (i:=3) Iu.nd ⋯ (by eq_refl) (Bo Cy (hr.mono ∅) ⋯ (A3 (Ln (C:=C_Keeper) (pv 0) k_Keeper.cl Ah (hr.mono ∅)) A4)))
  (A5 (Bc (Ai (Qc (K:=K) hq) (pv 2) (Af (A8 (K:=K) hu) (pv 3) (pv 1) (by ac_rfl)) ⋯) (A7 (Ap Ij)) Am)
  (A7 (Ap (M6 (PW.pt (Rx (Ai (Qc (K:=K) hq) (pv 1) (Af (A8 (K:=K) hu) (pv 3) (pv 2) (by ac_rfl)) ⋯) (Od (Ai (B5 (K:=K) hq) (pv 1) (pv 2) (An _))))) Ij Ih)))))),?_⟩
 symm
 refine Jm h1 (by rfl) ?_
 symm
 refine⟨p,ns,es,n,rfl,hK,λu1 H1 e1 hu1=>?_⟩
 symm
 refine Az (Aa nofun) λt2 H2 ht2 e2 h2'=>?_
 have e02:=e1.trans e2
 symm
 refine⟨u1,.ref t2,ns,es.map (·.2),[x,y],rfl,hu1.hf_fz e2.fz,Ov (SqT.of h2'),?_⟩
 rcases Yu (ns:=ns) x y with ⟨z,hz⟩ | ⟨hx,hy⟩
 . exact .inl ⟨z,hz,(k1 z hz).mono e02⟩
 refine .inr ⟨λz hz=>?_,?_⟩
 . simp only[List.mem_cons,List.not_mem_nil,or_false] at hz
   rcases hz with rfl | rfl
   . exact hx
   exact hy
 symm
 refine Jm (e02 _ _ h1) (by rfl) ?_
 symm
 refine⟨p,ns,es,n,rfl,hK.same e02,λu3 H3 e3 hu3=>?_⟩
 symm
 refine⟨u3,ns,es.map (·.2),rfl,hu3,hK.c.c,λr as H4 hr4 has e4 hT4=>?_⟩
 have kk:=k2 hx hy H4 ((e02.trans e3).trans e4)
 obtain⟨i,a,hi,hai⟩:=hT4.at hx
 obtain⟨ks,hk1,hk2,hk3,hk4⟩:=hT4.row i x a hi hai
 symm
 refine Qy hT4 hK.c.nd hi hai ?_
 refine Rb hk1 ?_
 rw[Qu (hk4 y)]
 unfold knV at kk
 symm
 refine az7 (λhb=>?_) (λhb=>?_)
 . rw[A11 hb] at kk
   symm
   exact kk
 rw[A0Y (by rw[hb];decide)] at kk
 obtain⟨i2,a2,hi2,hai2⟩:=hT4.at hy
 obtain⟨ks2,hl1,hl2,hl3,hl4⟩:=hT4.row i2 y a2 hi2 hai2
 symm
 refine R0 ?_
 symm
 refine Qy hT4 hK.c.nd hi2 hai2 ?_
 refine Rb hl1 ?_
 rw[Qu (hl4 x)]
 symm
 refine az7 (λhb2=>?_) (λhb2=>?_)
 . rw[A11 (.inl hb2)] at kk
   symm
   exact kk
 symm
 refine Fh (λhc=>?_) (λhc=>?_)
 . injection hc with hc
   rw[A11 (.inr hc)] at kk
   symm
   exact kk
 rw[A0Y (λq=>q.elim (λq=>by rw[hb2] at q;cases q) (λq=>hc (by rw[q])))] at kk
 symm
 exact kk
theorem Me {f:Addr}{fd:FuncData}(F:Fun K "lead" "Keeper.lead" Ct f fd)(T:Fp mg){C_Keeper:Addr}(k_Keeper:Aq K C_Keeper){C_HalfError:Addr}{C_NoName:Addr}(x_HalfError:Ao K mg C_HalfError C_HalfError)(x_NoName:Bv K mg C_NoName C_HalfError)(Ah:Mtd P w K mg base 1 C_Keeper "half" ["self"] (B8 C_Keeper K))(Bn:Mtd P w K mg base 2 C_Keeper "way_kept" ["self","name","other"] (Cp C_Keeper K))(At:av9 P w K mg base 3 "refuse_strangers" ["half","asked"] (Bh C_NoName K)):FnOk P w K mg base (CX1 P w) 4 f fd ["self","name","other"] (G3 C_Keeper C_NoName K):=by
 refine F.ok1 Pa (λvs H Q E h=>?_) (λcdv A outer s H vs Q E hr h=>?_)
 . obtain⟨p,ns,es,n,x,y,rfl,_⟩:=h
   rfl
 obtain⟨p,ns,es,n,x,y,rfl,hK,k1,k2⟩:=h
 have hu:=Cc hr
 have hq:=Cd hr
 obtain⟨dx,nv,w,pv0,uv,h1,h2,h3⟩:=hK.ex
 with_reducible refine⟨_,(A5 (Bf (Y4 At (hr.mono ∅) ⋯ Vn (A3 (Ln (C:=C_Keeper) (pv 0) k_Keeper.cl Ah (hr.mono ∅)) (A3 (B6 (A3 (pv 1) (A3 (pv 2) A4))) A4))))
  (A7 (Ap (M6 (Ai (B5 (K:=K) hq) (pv 1) (pv 2) (An _)) Ih (Uv (C:=C_Keeper) (pv 0) k_Keeper.cl Bn (hr.mono ∅) (A3 (pv 1) (A3 (pv 2) A4))))))),?_⟩
 symm
 refine Jm h1 (by rfl) ?_
 symm
 refine⟨p,ns,es,n,rfl,hK,λu1 H1 e1 hu1=>?_⟩
 symm
 refine Az (Aa nofun) λt2 H2 ht2 e2 h2'=>?_
 have e02:=e1.trans e2
 symm
 refine⟨u1,.ref t2,ns,es.map (·.2),[x,y],rfl,hu1.hf_fz e2.fz,Ov (SqT.of h2'),?_⟩
 rcases Yu (ns:=ns) x y with ⟨z,hz⟩ | ⟨hx,hy⟩
 . exact .inl ⟨z,hz,(k1 z hz).mono e02⟩
 refine .inr ⟨λz hz=>?_,?_⟩
 . simp only[List.mem_cons,List.not_mem_nil,or_false] at hz
   rcases hz with rfl | rfl
   . exact hx
   exact hy
 symm
 refine R0 ?_
 symm
 refine Fh (λhc=>?_) (λhc=>?_)
 . injection hc with hc
   symm
   exact k2 hx hy _ H2 e02 (.inl ⟨rfl,.inl hc⟩)
 have hne:x≠y:=λq=>hc (by rw[q])
 symm
 refine an6 (e02 _ _ h1) (by rfl) ?_
 symm
 refine⟨p,ns,es,n,x,y,rfl,hK.same e02,λu3 H3 e3 hres=>?_⟩
 refine k2 hx hy _ H3 (e02.trans e3) ?_
 rcases hres with ⟨rfl,_,h⟩ | ⟨js,os,j1,j2,j3⟩
 . exact .inl ⟨rfl,.inr h⟩
 exact .inr ⟨js,os,hne,j1,j2,j3⟩
structure KpH (K:PySem.W.Frag)(C:Addr)(H:Hp)(p pl ul:Addr)(ns:List Str)(S:SS)(pa un:List SS):Prop where
 ex:∃ dx nv w pvs uvs,H p=some (.ins C dx [("names",nv),("now",.ref w),("past",.ref pl),("undone",.ref ul)])/\Is K H (nmD ns) nv/\Is K H (nwD S) (.ref w)/\H pl=some (.lst pvs)/\IsL K H (pa.map nwD) pvs/\H ul=some (.lst uvs)/\IsL K H (un.map nwD) uvs
 ne:pl≠ul
 nd:Names ns
 few:ns.length<=10
 vs:Vs ns S.1 S.2
 vp:∀ s∈pa,Vs ns s.1 s.2
 vu:∀ s∈un,Vs ns s.1 s.2
theorem K6 (pa:List SS):Oh (pa.map nwD)=true:=Gh nwD (λS=>Ju S.1 S.2) pa
theorem KpH.at {K:PySem.W.Frag}{C:Addr}{H:Hp}{p pl ul:Addr}{ns:List Str}{S:SS}{pa un:List SS}(h:KpH K C H p pl ul ns S pa un):KpAt K C H p ns S.1 S.2:=by
 obtain⟨dx,nv,w,pvs,uvs,h1,h2,h3,_⟩:=h.ex
 exact⟨⟨dx,nv,w,_,_,h1,h2,h3⟩,h.nd,h.few,h.vs.mem,h.vs.irr,h.vs.le⟩
theorem KpH.of {K:PySem.W.Frag}{C:Addr}{H H':Hp}{p pl ul:Addr}{ns:List Str}{S:SS}{pa un:List SS}(h:KpH K C H p pl ul ns S pa un)(f:Fz H H')(q1:∀ o,H p=some o->H' p=some o)(q2:∀ o,H pl=some o->H' pl=some o)(q3:∀ o,H ul=some o->H' ul=some o):KpH K C H' p pl ul ns S pa un:=by
 obtain⟨dx,nv,w,pvs,uvs,h1,h2,h3,h4,h5,h6,h7⟩:=h.ex
 exact⟨⟨dx,nv,w,pvs,uvs,q1 _ h1,h2.nm_fz f,Is.fz f _ _ (Ju _ _) h3,q2 _ h4,IsL.fz f _ _ (K6 _) h5,q3 _ h6,IsL.fz f _ _ (K6 _) h7⟩,h.ne,h.nd,h.few,h.vs,h.vp,h.vu⟩
theorem KpH.same {K:PySem.W.Frag}{C:Addr}{H H':Hp}{p pl ul:Addr}{ns:List Str}{S:SS}{pa un:List SS}(h:KpH K C H p pl ul ns S pa un)(e:Same H H'):KpH K C H' p pl ul ns S pa un:=h.of e.fz (e p) (e pl) (e ul)
def Ur (p pl:Addr)(H H':Hp):Prop:=∀ b o,b≠p->b≠pl->H b=some o->H' b=some o
def Y9 (p pl ul:Addr)(H H':Hp):Prop:=∀ b o,b≠p->b≠pl->b≠ul->H b=some o->H' b=some o
def Dy (C:Addr)(K:PySem.W.Frag):Sp:=λvs H Q _=>∃ p pl ul ns S pa un kv es' n',vs=[.ref p,kv,.int ((n':Nat):Int)]/\KpH K C H p pl ul ns S pa un/\Is K H (.tuple (es'.map enD)) kv/\pa.length<900/\Vs ns es' n' /\
 ∀ ul' H',H ul'=none->Ur p pl H H'->Fz H H'->KpH K C H' p pl ul' ns (es',n') (pa++[S]) []->Q .non H'
theorem Mr {f:Addr}{fd:FuncData}(F:Fun K "go_on" "Keeper.go_on" Cm f fd)(T:Fp mg){C_Keeper:Addr}(k_Keeper:Aq K C_Keeper):FnOk P w K mg base CX0 1 f fd ["self","kept","following"] (Dy C_Keeper K):=by
 refine F.ok Mt (λvs H Q E h=>?_) (λcdv A outer s H vs Q E hr h=>?_)
 . obtain⟨p,pl,ul,ns,S,pa,un,kv,es',n',rfl,_⟩:=h
   rfl
 obtain⟨p,pl,ul,ns,S,pa,un,kv,es',n',rfl,hK,hkv,hpa,hV,k⟩:=h
 have hu:=Cc hr
 have hq:=Cd hr
 obtain⟨dx,nv,w,pvs,uvs,h1,h2,h3,h4,h5,h6,h7⟩:=hK.ex
 have hpl:pvs.length=pa.length:=by rw[<- IsL.length h5,A00]
 have hppl:pl≠p:=λq=>by rw[q,h1] at h4;cases h4
 with_reducible refine⟨_,(A5 (Bf (Ff (K:=K) A0F A0O A0P (mm Bg) (Dx (C:=C_Keeper) (pv 0) k_Keeper.cl k_Keeper.n_past ⋯) (A3 (Dx (C:=C_Keeper) (pv 0) k_Keeper.cl k_Keeper.n_now ⋯) A4)))
  (A5 (L5 (C:=C_Keeper) (pv 0) (B6 (A3 (pv 1) (A3 (pv 2) A4))) k_Keeper.cl k_Keeper.n_now ⋯)
  (A7 (L5 (C:=C_Keeper) (pv 0) (Bz A4) k_Keeper.cl k_Keeper.n_undone ⋯)))),?_⟩
 symm
 refine Kb h1 (by rfl) ?_
 symm
 refine Kb h1 (by rfl) ?_
 symm
 refine Fo h4 (by omega) λH1 e1 h4'=>?_
 have h1':=e1 _ _ (Ne.symm hppl) h1
 have fz1:=e1.fzL h4
 symm
 refine Az (Aa nofun) λt2 H2 ht2 e2 h2'=>?_
 have h12:=e2 _ _ h1'
 have hpt:t2≠p:=(ne_of_none h1' ht2).symm
 symm
 refine Wx h12 (by show 4<1000;decide) λH3 e3 h13=>?_
 replace h13:H3 p=some (.ins C_Keeper dx [("names",nv),("now",.ref t2),("past",.ref pl),("undone",.ref ul)]):=h13
 have fz3:=e3.fzI h12
 symm
 refine B7 (Aa nofun) λu4 H4 hu4 e4 h4u=>?_
 symm
 refine Wx (e4 _ _ h13) (by show 4<1000;decide) λH5 e5 h15=>?_
 replace h15:H5 p=some (.ins C_Keeper dx [("names",nv),("now",.ref t2),("past",.ref pl),("undone",.ref u4)]):=h15
 have fz5:=e5.fzI (e4 _ _ h13)
 have hpu:u4≠p:=(ne_of_none h13 hu4).symm
 have fz15:Fz H1 H5:=((e2.fz.trans fz3).trans e4.fz).trans fz5
 have h43:=e3 _ _ hppl (e2 _ _ h4')
 have hplu:pl≠u4:=ne_of_none h43 hu4
 have hun:H u4=none:=by
  cases z:H u4 with
  | none=>rfl
  | some o=>
    by_cases hz:u4=pl
    . exact absurd hz.symm hplu
    have:=e3 _ _ hpu (e2 _ _ (e1 _ _ hz z))
    rw[hu4] at this
    cases this
 symm
 refine k u4 H5 hun (λb o hb hb2 q=>e5 _ _ hb (e4 _ _ (e3 _ _ hb (e2 _ _ (e1 _ _ hb2 q))))) (fz1.trans fz15) ⟨⟨dx,nv,t2,_,[],h15,h2.nm_fz (fz1.trans fz15),?_,e5 _ _ hppl (e4 _ _ h43),?_,e5 _ _ hpu h4u,.nil⟩,hplu,hK.nd,hK.few,hV,λs hs=>?_,λs hs=>by cases hs⟩
 . exact Is.of_tup (((fz3.trans e4.fz).trans fz5).seq (SqT.of h2')) (.cons (Is.fz (fz1.trans fz15) _ _ (am1 es') hkv) (.one Gy))
 . rw[A0G]
   exact(IsL.fz (fz1.trans fz15) _ _ (K6 _) h5).append (.one (Is.fz (fz1.trans fz15) _ _ (Ju _ _) h3))
 rcases A0B.mp hs with hs | hs
 . exact hK.vp s hs
 rw[A15.mp hs]
 exact hK.vs
local macro_rules | `(tactic| walk_at "rq1") => L2.mAlts "i_sRaise i_tMeth"
theorem Vs.c {ns:List Str}{es:List (Nat×(Str×Str))}{n:Nat}(h:Vs ns es n)(hN:Names ns)(h10:ns.length<=10):HalfW ns (es.map (·.2)):=
 ⟨hN.1,λq hq=>by obtain⟨e,he,rfl⟩:=A0I.mp hq;exact h.mem e he,h.irr,A0L h10 ∅,by rw[A00];exact A0L h.le ∅⟩
theorem Vs.said {ns:List Str}{es:List (Nat×(Str×Str))}{n:Nat}(h:Vs ns es n)(hN:Names ns)(h10:ns.length<=10){x y:Str}(hx:x∈ns)(hy:y∈ns)(hne:x≠y)(hnw:¬ Way (es.map (·.2)) y x)(hl:es.length<60)(hn:n<1000):Vs ns (es++[(n,(x,y))]) (n+1):=by
 refine⟨λe he=>?_,?_,by rw[List.length_append];simp;omega,?_,λe he=>?_,by omega⟩
 . rcases A0B.mp he with he | he
   . exact h.mem e he
   rw[A15.mp he]
   exact⟨hx,hy⟩
 . have:=((h.c hN h10).said hx hy hne hnw (by rw[A00];omega)).irr
   rw[A0G]
   exact this
 . rw[A0G,List.pairwise_append]
   refine⟨h.so,by simp,λa ha b hb=>?_⟩
   obtain⟨e,he,rfl⟩:=A0I.mp ha
   have:b=n:=by simpa using hb
   rw[this]
   exact h.lt e he
 rcases A0B.mp he with he | he
 . have:=h.lt e he
   omega
 rw[A15.mp he]
 show n<n+1
 omega
def Rr (m:Nat)(es:List (Nat×(Str×Str))):List (Nat×(Str×Str)):=es.filter λe=>!decide (e.1=m)
theorem Vs.out {ns:List Str}{es:List (Nat×(Str×Str))}{n:Nat}(h:Vs ns es n)(m:Nat):Vs ns (Rr m es) n:=by
 have hs:(Rr m es).Sublist es:=A4M
 refine⟨λe he=>h.mem e (hs.subset he),λx g=>h.irr x (g.mono λq hq=>(hs.map _).subset hq),A0L hs.length_le h.le,h.so.sublist (hs.map _),λe he=>h.lt e (hs.subset he),h.big⟩
def Gq (C C_NoName C_Clash C_TooMany:Addr)(K:PySem.W.Frag):Sp:=λvs H Q E=>∃ p pl ul ns S pa un x y,vs=[.ref p,.str x,.str y]/\KpH K C H p pl ul ns S pa un/\pa.length<900/\(∀ z,ae6 ns [x,y] z->Refz H C_NoName z E) /\
 (x∈ns->y∈ns->(∀ a H' u js os,Same H H'->ExB false H' a C_Clash [("way",u)]->Is K H' (jsD (js.map λj=>(S.1.getD j (0,("",""))).1)) u->js.length<=1000->Trl (S.1.map (·.2)) y js x os->E (.ref a) none H') /\
  ((x≠y/\¬ Way (S.1.map (·.2)) y x/\60<=S.1.length)->∀ a H',Same H H'->ExB false H' a C_TooMany [("word",.str "sayings")]->E (.ref a) none H') /\
  ((x≠y/\¬ Way (S.1.map (·.2)) y x/\S.1.length<60)->S.2<1000/\∀ ul' H',H ul'=none->Ur p pl H H'->Fz H H'->KpH K C H' p pl ul' ns (S.1++[(S.2,(x,y))],S.2+1) (pa++[S]) []->Q (.int ((S.2:Nat):Int)) H'))
theorem Pk {f:Addr}{fd:FuncData}(F:Fun K "say" "Keeper.say" Du f fd)(T:Fp mg){C_Keeper:Addr}(k_Keeper:Aq K C_Keeper){C_HalfError:Addr}{C_NoName:Addr}{C_TooMany:Addr}{C_Clash:Addr}(x_HalfError:Ao K mg C_HalfError C_HalfError)(x_NoName:Bv K mg C_NoName C_HalfError)(x_TooMany:Ge K mg C_TooMany C_HalfError)(x_Clash:Im K mg C_Clash C_HalfError)(Ck:Mtd P w K mg base 1 C_Keeper "go_on" ["self","kept","following"] (Dy C_Keeper K))(Ah:Mtd P w K mg base 1 C_Keeper "half" ["self"] (B8 C_Keeper K))(Bn:Mtd P w K mg base 2 C_Keeper "way_kept" ["self","name","other"] (Cp C_Keeper K))(Gu:Mkx P w K mg base 1 C_TooMany "TooMany" ["self","word"] (spX C_TooMany ["word"]))(Il:Mkx P w K mg base 1 C_Clash "Clash" ["self","way"] (spX C_Clash ["way"]))(At:av9 P w K mg base 3 "refuse_strangers" ["half","asked"] (Bh C_NoName K)):FnOk P w K mg base (CX1 P w) 4 f fd ["self","name","other"] (Gq C_Keeper C_NoName C_Clash C_TooMany K):=by
 refine F.ok1 Fu (λvs H Q E h=>?_) (λcdv A outer s H vs Q E hr h=>?_)
 . obtain⟨p,pl,ul,ns,S,pa,un,x,y,rfl,_⟩:=h
   rfl
 obtain⟨p,pl,ul,ns,S,pa,un,x,y,rfl,hK,hpa,k1,k2⟩:=h
 have hu:=Cc hr
 have hq:=Cd hr
 obtain⟨dx,nv,w,pv0,uv,h1,h2,h3⟩:=hK.at.ex
 with_reducible refine⟨_,(A5 (Bf (Y4 At (hr.mono ∅) ⋯ Vn (A3 (Ln (C:=C_Keeper) (pv 0) k_Keeper.cl Ah (hr.mono ∅)) (A3 (B6 (A3 (pv 1) (A3 (pv 2) A4))) A4))))
  (A5 (Al (i:=3) Fu.nd ⋯ (by eq_refl) (Uv (C:=C_Keeper) (pv 0) k_Keeper.cl Bn (hr.mono ∅) (A3 (pv 2) (A3 (pv 1) A4))))
  (A5 (Bc (Ai Zc (pv 3) Ih (An _)) (A7 (Jj ⋯ (Wh Il (hr.mono ∅) ⋯ (A3 (pv 3) A4)))) Am)
  (A5 (Al (i:=4) Fu.nd ⋯ (by eq_refl) (Af (A8 (K:=K) hu) (Dx (C:=C_Keeper) (pv 0) k_Keeper.cl k_Keeper.n_now ⋯) A9 (by ac_rfl)))
  (A5 (Al (i:=5) Fu.nd ⋯ (by eq_refl) (Af (A8 (K:=K) hu) (Dx (C:=C_Keeper) (pv 0) k_Keeper.cl k_Keeper.n_now ⋯) A9 (by ac_rfl)))
  (A5 (Bc (Ai aE4 (Ag (C7 (K:=K)) ⋯ T.b_len PyProof.Rows.Boot.«len» (A3 (pv 4) A4)) (Ii ⋯ T.g_MOST_SAYINGS) (An _)) (A7 (Jj ⋯ (Wh Gu (hr.mono ∅) ⋯ (A3 Ab A4)))) Am)
  (A5 (Bf (Uv (C:=C_Keeper) (pv 0) k_Keeper.cl Ck (hr.mono ∅) (A3 (B3 (Aw (K:=K)) (pv 4) (B6 (A3 (B6 (A3 (pv 5) (A3 (B6 (A3 (pv 1) (A3 (pv 2) A4))) A4))) A4))) (A3 (B3 (Aw (K:=K)) (pv 5) A9) A4))))
  (A7 (Ap (pv 5)))))))))),?_⟩
 symm
 refine Jm h1 (by rfl) ?_
 symm
 refine⟨p,ns,S.1,S.2,rfl,hK.at,λu1 H1 e1 hu1=>?_⟩
 symm
 refine Az (Aa nofun) λt2 H2 ht2 e2 h2'=>?_
 have e02:=e1.trans e2
 symm
 refine⟨u1,.ref t2,ns,S.1.map (·.2),[x,y],rfl,hu1.hf_fz e2.fz,Ov (SqT.of h2'),?_⟩
 rcases Yu (ns:=ns) x y with ⟨z,hz⟩ | ⟨hx,hy⟩
 . exact .inl ⟨z,hz,(k1 z hz).mono e02⟩
 obtain⟨kc,kt,ko⟩:=k2 hx hy
 refine .inr ⟨λz hz=>?_,?_⟩
 . simp only[List.mem_cons,List.not_mem_nil,or_false] at hz
   rcases hz with rfl | rfl
   . exact hx
   exact hy
 symm
 refine an6 (e02 _ _ h1) (by rfl) ?_
 symm
 refine⟨p,ns,S.1,S.2,y,x,rfl,hK.at.same e02,λu3 H3 e3 hres=>?_⟩
 have e03:=e02.trans e3
 symm
 rcases hres with ⟨rfl,hne,hnw⟩ | ⟨js,os,j1,j2,j3⟩
 . have hne':x≠y:=λq=>hne q.symm
   obtain⟨dx3,nv3,w3,pv3,uv3,g1,g2,g3⟩:=(hK.at.same e03).ex
   obtain⟨t,xs,hw,ht,hxs⟩:=Px g3
   have hxl:xs.length=S.1.length:=by rw[<- IsL.length hxs,A00]
   symm
   refine Kb g1 (by rfl) ?_
   symm
   refine Ej hw (show atI _ 0=some (.ref t) from rfl) ?_
   symm
   refine Kb g1 (by rfl) ?_
   symm
   refine Ej hw (show atI _ 1=some (.int ((S.2:Nat):Int)) from rfl) ?_
   symm
   refine ah8 (ds:=S.1.map enD) (Is.of_tup ht hxs) ?_
   rw[A00]
   symm
   refine Fh (λhc=>?_) (λhc=>?_)
   . have kk:=kt ⟨hne',hnw,by omega⟩
     symm
     refine a84 (by rfl) ∅ λa H4 ha4 e4 hE=>?_
     symm
     refine Kz hE x_TooMany.xc (e03.free ha4) λH5 kp hE5=>?_
     exact kk a H5 (e03.trans λb o q=>kp b o (ne_of_none q ha4) (e4 _ _ q)) hE5
   obtain⟨hn1,kk⟩:=ko ⟨hne',hnw,by omega⟩
   symm
   refine an6 g1 (by rfl) ?_
   symm
   refine Az (Aa nofun) λt4 H4 ht4 e4 h4'=>?_
   symm
   refine Az (Aa nofun) λt5 H5 ht5 e5 h5'=>?_
   symm
   refine Az (Aa nofun) λt6 H6 ht6 e6 h6'=>?_
   have e36:=(e4.trans e5).trans e6
   refine ae2 (e36.seqT ht) (SqT.of h6') (Aa (by have:=hK.vs.le;show _+1<=_;omega)) λt7 H7 e7 h7'=>?_
   have e07:=e03.trans (e36.trans e7)
   have e37:=e36.trans e7
   have hkv:Is K H7 (.tuple ((S.1++[(S.2,(x,y))]).map enD)) (.ref t7):=Is.of_tup h7' (by
    rw[A0G]
    refine(IsL.mono e37 _ _ hxs).append (.one ?_)
    refine Is.of_tup (SqT.of (e7 _ _ (e6 _ _ h5'))) (.cons Gy (.one ?_))
    exact Is.mono ((e5.trans e6).trans e7) _ _ (show Is K H4 (prD (x,y)) (.ref t4) from ap3 (SqT.of h4')))
   symm
   refine⟨p,pl,ul,ns,S,pa,un,.ref t7,S.1++[(S.2,(x,y))],S.2+1,by rw[Int.natCast_add];rfl,hK.same e07,hkv,hpa,hK.vs.said hK.nd hK.few hx hy hne' hnw (by omega) hn1,λul' H8 hul' kp fz8 hK8=>?_⟩
   symm
   exact kk ul' H8 (e07.free hul') (λb o hb hb2 q=>kp b o hb hb2 (e07 _ _ q)) (e07.fz.trans fz8) hK8
 obtain⟨ja,jx,rfl,hjS,hjL⟩:=Is.tup j1
 refine Wz (λ_=>?_) (λq=>by cases q)
 symm
 refine a84 (by rfl) ∅ λa H4 ha4 e4 hE=>?_
 symm
 refine Kz hE x_Clash.xc (e03.free ha4) λH5 kp hE5=>?_
 have e35:Same H3 H5:=λb o q=>kp b o (ne_of_none q ha4) (e4 _ _ q)
 exact kc a H5 _ js os (e03.trans e35) hE5 (Is.mono e35 _ _ j1) j2 j3
def G9 (C C_NoSaying:Addr)(K:PySem.W.Frag):Sp:=λvs H Q E=>∃ p pl ul ns S pa un i,vs=[.ref p,.int i]/\KpH K C H p pl ul ns S pa un/\pa.length<900 /\
 (∀ m q,(m,q)∈S.1->((m:Nat):Int)=i->∀ ul' H',H ul'=none->Ur p pl H H'->Fz H H'->KpH K C H' p pl ul' ns (Rr m S.1,S.2) (pa++[S]) []->Q .non H')/\((∀ e∈S.1,((e.1:Nat):Int)≠i)->aH3 H C_NoSaying i E)
theorem Md {f:Addr}{fd:FuncData}(F:Fun K "take" "Keeper.take" Dd f fd)(T:Fp mg){C_Keeper:Addr}(k_Keeper:Aq K C_Keeper){C_HalfError:Addr}{C_NoName:Addr}{C_NoSaying:Addr}(x_HalfError:Ao K mg C_HalfError C_HalfError)(x_NoName:Bv K mg C_NoName C_HalfError)(x_NoSaying:Dv K mg C_NoSaying C_HalfError)(Ck:Mtd P w K mg base 1 C_Keeper "go_on" ["self","kept","following"] (Dy C_Keeper K))(C8:T7 P w K mg base 3 C_Keeper "saying" ["self","number"] (Cz C_Keeper C_NoSaying K)):FnOk P w K mg base (CX1 P w) 4 f fd ["self","number"] (G9 C_Keeper C_NoSaying K):=by
 refine F.ok1 Pl (λvs H Q E h=>?_) (λcdv A outer s H vs Q E hr h=>?_)
 . obtain⟨p,pl,ul,ns,S,pa,un,i,rfl,_⟩:=h
   rfl
 obtain⟨p,pl,ul,ns,S,pa,un,i,rfl,hK,hpa,k1,k2⟩:=h
 have hu:=Cc hr
 have hq:=Cd hr
 obtain⟨dx,nv,w,pv0,uv,h1,h2,h3⟩:=hK.at.ex
 have hnd:(S.1.map (·.1)).Nodup:=hK.vs.so.imp λq=>A0J q
 with_reducible refine⟨_,(A5 (Bf (Qh (C:=C_Keeper) (pv 0) k_Keeper.cl C8 (hr.mono ∅) Vn (A3 (pv 1) A4)))
  (A7 (Bf (Uv (C:=C_Keeper) (pv 0) k_Keeper.cl Ck (hr.mono ∅) (A3 (Ay (Bq (K:=K)) ⋯ T.b_tuple PyProof.Rows.Boot.«tuple» (A3 (Eu ["entry"] ["number"] [1] ⋯ ⋯ ⋯ (Bs (K:=K) hu (Af (A8 (K:=K) hu) (Dx (C:=C_Keeper) (pv 0) k_Keeper.cl k_Keeper.n_now ⋯) A9 (by ac_rfl))) (λ_ _ _ _=>(B4 (i:=0) (by with_unfolding_all (show(["entry","number"]:List Str).Nodup;decide +kernel)) ⋯ (by eq_refl))) (Ed ∅) (λ_ _ _ _=>(Qo (Ai (Lk (K:=K) hq) (Af (A8 (K:=K) hu) (pv 0) A9 (by ac_rfl)) (pv 1) (An _)))) (λ_ _ _ _=>(pv 0))) A4)) (A3 (Af (A8 (K:=K) hu) (Dx (C:=C_Keeper) (pv 0) k_Keeper.cl k_Keeper.n_now ⋯) A9 (by ac_rfl)) A4)))))),?_⟩
 symm
 refine Jm h1 (by rfl) ?_
 symm
 refine⟨p,ns,S.1,S.2,i,rfl,hK.at,hnd,λe he hi u hu=>?_,λhno=>k2 hno⟩
 obtain⟨t,xs,hw,ht,hx⟩:=Px h3
 have hxl:xs.length=S.1.length:=by rw[<- IsL.length hx,A00]
 symm
 refine an6 h1 (by rfl) ?_
 symm
 refine Kb h1 (by rfl) ?_
 symm
 refine Ej hw (show atI _ 0=some (.ref t) from rfl) ?_
 symm
 refine Pc ht (Gj (K:=K) (Fb (xs:=xs)) S.1 (by omega) (λe'=>!decide (e'.1=e.1)) enD (λe'=>by simp[enD,frz,Oh,Jo]) (by have:=hK.vs.le;omega) (λH' e=>e.seqT ht) (λj e' v H1 R R' he' hv e1 hR hR'=>?_) (λq us H1 hq1 e1 hq hL1=>?_))
 . obtain⟨D,hD,hI⟩:=IsL.get hx hv
   rw[A0A,he'] at hD
   cases hD
   have hI1:=Is.mono e1 _ _ hI
   obtain⟨a,x,rfl,hS,hP⟩:=Tp hI1
   symm
   refine Ej hS (show atI _ 0=some (.int ((e'.1:Nat):Int)) from rfl) ?_
   symm
   refine Wz (λhc=>?_) (λhc=>?_)
   . symm
     exact hR (by rw[A0Q (λq=>hc (by rw[q,hi]))];rfl) _ _ (.refl _) hI1
   exact hR' (by rw[A0S (by injection hc with hc;omega)];rfl) _ (.refl _)
 symm
 refine Fs (SqL.of hq) λt2 H2 ht2 e2 h2'=>?_
 have e02:=e1.trans e2
 symm
 refine Kb (e02 _ _ h1) (by rfl) ?_
 symm
 refine Ej (e02.seqT hw) (show atI _ 1=some (.int ((S.2:Nat):Int)) from rfl) ?_
 symm
 refine⟨p,pl,ul,ns,S,pa,un,.ref t2,Rr e.1 S.1,S.2,rfl,hK.same e02,Is.of_tup (SqT.of h2') (IsL.mono e2 _ _ hL1),hpa,hK.vs.out _,λul' H3 hul' kp fz3 hK3=>?_⟩
 symm
 exact k1 e.1 e.2 he hi ul' H3 (e02.free hul') (λb o hb hb2 q=>kp b o hb hb2 (e02 _ _ q)) (e02.fz.trans fz3) hK3
def aG9 (H:Hp)(C:Addr)(E:XK):Prop:=∀ a H',Same H H'->ExB false H' a C []->E (.ref a) none H'
theorem Mb {K:PySem.W.Frag}{H:Hp}{ds:List PyData}{d:PyData}:∀ {vs:List V},IsL K H (ds++[d]) vs->∃ us v,vs=us++[v]/\IsL K H ds us/\Is K H d v:=by
 induction ds with
 | nil=>
   intro vs h
   obtain⟨v,us,rfl,h1,h2⟩:=K1 h
   have:=Jb h2
   subst this
   exact⟨[],v,rfl,.nil,h1⟩
 | cons a ds ih=>
   intro vs h
   obtain⟨v,us,rfl,h1,h2⟩:=K1 h
   obtain⟨us',v',rfl,h3,h4⟩:=ih h2
   exact⟨v :: us',v',rfl,.cons h1 h3,h4⟩
def Gf (C C_NoMore:Addr)(K:PySem.W.Frag):Sp:=λvs H Q E=>∃ p pl ul ns S pa un,vs=[.ref p]/\KpH K C H p pl ul ns S pa un/\pa.length<900/\un.length<900/\(pa=[]->aG9 H C_NoMore E) /\
 (∀ S0 pa',pa=pa'++[S0]->∀ H',Y9 p pl ul H H'->Fz H H'->KpH K C H' p pl ul ns S0 pa' (un++[S])->Q .non H')
def G1 (C C_NoMore:Addr)(K:PySem.W.Frag):Sp:=λvs H Q E=>∃ p pl ul ns S pa un,vs=[.ref p]/\KpH K C H p pl ul ns S pa un/\pa.length<900/\un.length<900/\(un=[]->aG9 H C_NoMore E) /\
 (∀ S1 un',un=un'++[S1]->∀ H',Y9 p pl ul H H'->Fz H H'->KpH K C H' p pl ul ns S1 (pa++[S]) un'->Q .non H')
theorem Og {f:Addr}{fd:FuncData}(F:Fun K "undo" "Keeper.undo" Dg f fd)(T:Fp mg){C_Keeper:Addr}(k_Keeper:Aq K C_Keeper){C_HalfError:Addr}{C_NoName:Addr}{C_NoMore:Addr}(x_HalfError:Ao K mg C_HalfError C_HalfError)(x_NoName:Bv K mg C_NoName C_HalfError)(x_NoMore:Hc K mg C_NoMore C_HalfError):FnOk P w K mg base (CX1 P w) 1 f fd ["self"] (Gf C_Keeper C_NoMore K):=by
 refine F.ok1 Pg (λvs H Q E h=>?_) (λcdv A outer s H vs Q E hr h=>?_)
 . obtain⟨p,pl,ul,ns,S,pa,un,rfl,_⟩:=h
   rfl
 obtain⟨p,pl,ul,ns,S,pa,un,rfl,hK,hpa,hun,k1,k2⟩:=h
 have hu:=Cc hr
 have hq:=Cd hr
 obtain⟨dx,nv,w,pvs,uvs,h1,h2,h3,h4,h5,h6,h7⟩:=hK.ex
 have hpl:pvs.length=pa.length:=by rw[<- IsL.length h5,A00]
 have hul:uvs.length=un.length:=by rw[<- IsL.length h7,A00]
 with_reducible refine⟨_,(A5 (Bc (Ai (B5 (K:=K) hq) (Ag (C7 (K:=K)) ⋯ T.b_len PyProof.Rows.Boot.«len» (A3 (Dx (C:=C_Keeper) (pv 0) k_Keeper.cl k_Keeper.n_past ⋯) A4)) A9 (An _)) (A7 (Jj ⋯ (Xv x_NoMore.mk0 ⋯ (A3 Ab A4)))) Am)
  (A5 (Bf (Ff (K:=K) A0F A0O A0P (mm Bg) (Dx (C:=C_Keeper) (pv 0) k_Keeper.cl k_Keeper.n_undone ⋯) (A3 (Dx (C:=C_Keeper) (pv 0) k_Keeper.cl k_Keeper.n_now ⋯) A4)))
  (A7 (L5 (C:=C_Keeper) (pv 0) (L0 (K:=K) A0F A2K A2L (mm Wa) (Dx (C:=C_Keeper) (pv 0) k_Keeper.cl k_Keeper.n_past ⋯)) k_Keeper.cl k_Keeper.n_now ⋯)))),?_⟩
 symm
 refine Kb h1 (by rfl) ?_
 symm
 refine Fh (λhc=>?_) (λhc=>?_)
 . have hp0:pa=[]:=A1I.mp (by injection hc with hc;omega)
   symm
   refine af2 ∅ λa H4 ha4 e4 hE=>?_
   symm
   exact Kz hE x_NoMore.xc ha4 λH5 kp hE5=>k1 hp0 a H5 (λb o q=>kp b o (ne_of_none q ha4) (e4 _ _ q)) hE5
 obtain⟨pa',S0,rfl⟩:∃ pa' S0,pa=pa'++[S0]:=by
  rcases List.eq_nil_or_concat pa with q | ⟨a,b,q⟩
  . rw[q] at hpl
    exact absurd (by rw[hpl];rfl) hc
  exact⟨a,b,by rw[q,List.concat_eq_append]⟩
 rw[A0G] at h5
 obtain⟨pvs',v0,rfl,h50,h51⟩:=Mb h5
 symm
 refine Kb h1 (by rfl) ?_
 symm
 refine Kb h1 (by rfl) ?_
 symm
 have hpp:pl≠p:=λq=>by rw[q,h1] at h4;cases h4
 have hup:ul≠p:=λq=>by rw[q,h1] at h6;cases h6
 refine Fo h6 (by omega) λH1 e1 h61=>?_
 have h11:=e1 _ _ hup.symm h1
 have h41:=e1 _ _ hK.ne h4
 symm
 refine Kb h11 (by rfl) ?_
 symm
 refine Sj h41 λH2 e2 h42=>?_
 have h12:=e2 _ _ hpp.symm h11
 have h62:=e2 _ _ hK.ne.symm h61
 symm
 refine Wx h12 (by show 4<1000;decide) λH3 e3 h13=>?_
 have fz03:Fz H H3:=((e1.fzL h6).trans (e2.fzL h41)).trans (e3.fzI h12)
 obtain⟨wa,x0,y0,rfl,hS0,hx0,hy0⟩:=Si (d1:=.tuple (S0.1.map enD)) (d2:=.int ((S0.2:Nat):Int)) h51
 replace h13:H3 p=some (.ins C_Keeper dx [("names",nv),("now",.ref wa),("past",.ref pl),("undone",.ref ul)]):=h13
 symm
 refine k2 S0 pa' rfl H3 (λb o q1 q2 q3 q=>e3 _ _ q1 (e2 _ _ q2 (e1 _ _ q3 q))) fz03 ⟨⟨dx,nv,wa,pvs',_,h13,h2.nm_fz fz03,Is.fz fz03 _ _ (Ju _ _) h51,e3 _ _ hpp h42,IsL.fz fz03 _ _ (K6 _) h50,e3 _ _ hup h62,?_⟩,hK.ne,hK.nd,hK.few,hK.vp S0 nofun,λs hs=>hK.vp s (by simp[hs]),λs hs=>?_⟩
 . rw[A0G]
   exact(IsL.fz fz03 _ _ (K6 _) h7).append (.one (Is.fz fz03 _ _ (Ju _ _) h3))
 rcases A0B.mp hs with hs | hs
 . exact hK.vu s hs
 rw[A15.mp hs]
 exact hK.vs
theorem Nt {f:Addr}{fd:FuncData}(F:Fun K "redo" "Keeper.redo" Dc f fd)(T:Fp mg){C_Keeper:Addr}(k_Keeper:Aq K C_Keeper){C_HalfError:Addr}{C_NoName:Addr}{C_NoMore:Addr}(x_HalfError:Ao K mg C_HalfError C_HalfError)(x_NoName:Bv K mg C_NoName C_HalfError)(x_NoMore:Hc K mg C_NoMore C_HalfError):FnOk P w K mg base (CX1 P w) 1 f fd ["self"] (G1 C_Keeper C_NoMore K):=by
 refine F.ok1 Ot (λvs H Q E h=>?_) (λcdv A outer s H vs Q E hr h=>?_)
 . obtain⟨p,pl,ul,ns,S,pa,un,rfl,_⟩:=h
   rfl
 obtain⟨p,pl,ul,ns,S,pa,un,rfl,hK,hpa,hun,k1,k2⟩:=h
 have hu:=Cc hr
 have hq:=Cd hr
 obtain⟨dx,nv,w,pvs,uvs,h1,h2,h3,h4,h5,h6,h7⟩:=hK.ex
 have hpl:pvs.length=pa.length:=by rw[<- IsL.length h5,A00]
 have hul:uvs.length=un.length:=by rw[<- IsL.length h7,A00]
 with_reducible refine⟨_,(A5 (Bc (Ai (B5 (K:=K) hq) (Ag (C7 (K:=K)) ⋯ T.b_len PyProof.Rows.Boot.«len» (A3 (Dx (C:=C_Keeper) (pv 0) k_Keeper.cl k_Keeper.n_undone ⋯) A4)) A9 (An _)) (A7 (Jj ⋯ (Xv x_NoMore.mk0 ⋯ (A3 Ab A4)))) Am)
  (A5 (Bf (Ff (K:=K) A0F A0O A0P (mm Bg) (Dx (C:=C_Keeper) (pv 0) k_Keeper.cl k_Keeper.n_past ⋯) (A3 (Dx (C:=C_Keeper) (pv 0) k_Keeper.cl k_Keeper.n_now ⋯) A4)))
  (A7 (L5 (C:=C_Keeper) (pv 0) (L0 (K:=K) A0F A2K A2L (mm Wa) (Dx (C:=C_Keeper) (pv 0) k_Keeper.cl k_Keeper.n_undone ⋯)) k_Keeper.cl k_Keeper.n_now ⋯)))),?_⟩
 symm
 refine Kb h1 (by rfl) ?_
 symm
 refine Fh (λhc=>?_) (λhc=>?_)
 . have hp0:un=[]:=A1I.mp (by injection hc with hc;omega)
   symm
   refine af2 ∅ λa H4 ha4 e4 hE=>?_
   symm
   exact Kz hE x_NoMore.xc ha4 λH5 kp hE5=>k1 hp0 a H5 (λb o q=>kp b o (ne_of_none q ha4) (e4 _ _ q)) hE5
 obtain⟨un',S0,rfl⟩:∃ un' S0,un=un'++[S0]:=by
  rcases List.eq_nil_or_concat un with q | ⟨a,b,q⟩
  . rw[q] at hul
    exact absurd (by rw[hul];rfl) hc
  exact⟨a,b,by rw[q,List.concat_eq_append]⟩
 rw[A0G] at h7
 obtain⟨uvs',v0,rfl,h50,h51⟩:=Mb h7
 symm
 refine Kb h1 (by rfl) ?_
 symm
 refine Kb h1 (by rfl) ?_
 symm
 have hpp:pl≠p:=λq=>by rw[q,h1] at h4;cases h4
 have hup:ul≠p:=λq=>by rw[q,h1] at h6;cases h6
 refine Fo h4 (by omega) λH1 e1 h41=>?_
 have h11:=e1 _ _ hpp.symm h1
 have h61:=e1 _ _ hK.ne.symm h6
 symm
 refine Kb h11 (by rfl) ?_
 symm
 refine Sj h61 λH2 e2 h62=>?_
 have h12:=e2 _ _ hup.symm h11
 have h42:=e2 _ _ hK.ne h41
 symm
 refine Wx h12 (by show 4<1000;decide) λH3 e3 h13=>?_
 have fz03:Fz H H3:=((e1.fzL h4).trans (e2.fzL h61)).trans (e3.fzI h12)
 obtain⟨wa,x0,y0,rfl,hS0,hx0,hy0⟩:=Si (d1:=.tuple (S0.1.map enD)) (d2:=.int ((S0.2:Nat):Int)) h51
 replace h13:H3 p=some (.ins C_Keeper dx [("names",nv),("now",.ref wa),("past",.ref pl),("undone",.ref ul)]):=h13
 symm
 refine k2 S0 un' rfl H3 (λb o q1 q2 q3 q=>e3 _ _ q1 (e2 _ _ q3 (e1 _ _ q2 q))) fz03 ⟨⟨dx,nv,wa,_,uvs',h13,h2.nm_fz fz03,Is.fz fz03 _ _ (Ju _ _) h51,e3 _ _ hpp h42,?_,e3 _ _ hup h62,IsL.fz fz03 _ _ (K6 _) h50⟩,hK.ne,hK.nd,hK.few,hK.vu S0 nofun,λs hs=>?_,λs hs=>hK.vu s (by simp[hs])⟩
 . rw[A0G]
   exact(IsL.fz fz03 _ _ (K6 _) h5).append (.one (Is.fz fz03 _ _ (Ju _ _) h3))
 rcases A0B.mp hs with hs | hs
 . exact hK.vp s hs
 rw[A15.mp hs]
 exact hK.vs
theorem Ja {p q:Addr}{H H':Hp}(e:ExtBut p H H')(hq:q≠p)(h:H' q=none):H q=none:=by
 cases z:H q with
 | none=>rfl
 | some o=>rw[e q o hq z] at h;cases h
def Gw (C:Addr)(K:PySem.W.Frag):Sp:=λvs H Q _=>∃ p v dx ns,vs=[.ref p,v]/\H p=some (.ins C dx [])/\(∃ na,v = .ref na/\(SqL K H na (ns.map V.str)\/SqT K H na (ns.map V.str)))/\Names ns/\ns.length<=10/\∀ pl ul H',H pl=none->H ul=none->ExtBut p H H'->KpH K C H' p pl ul ns ([],0) [] []->Q .non H'
theorem Pb {f:Addr}{fd:FuncData}(F:Fun K "__init__" "Keeper.__init__" Db f fd)(T:Fp mg){C_Keeper:Addr}(k_Keeper:Aq K C_Keeper)(Fi:Fnd P w K mg base 3 "are_tale_names" ["thing"] (Ew K)):FnOk P w K mg base CX0 4 f fd ["self","names"] (Gw C_Keeper K):=by
 refine F.ok Pm (λvs H Q E h=>?_) (λcdv A outer s H vs Q E hr h=>?_)
 . obtain⟨p,v,dx,ns,rfl,_⟩:=h
   rfl
 obtain⟨p,v,dx,ns,rfl,hp,hI,hN,h10,k⟩:=h
 have hu:=Cc hr
 have hq:=Cd hr
 obtain⟨na,rfl,hS⟩:=hI
 with_reducible refine⟨_,(A5 (Bc (PW.pt (Rx (Ig (Dr (Ag (Ym (K:=K)) ⋯ T.b_isinstance PyProof.Rows.Boot.«isinstance» (A3 (pv 1) (A3 (B6 (A3 (Ho (v:=.ty "tuple") ⋯ T.b_tuple PyProof.Rows.Boot.«tuple» ⋯) (A3 (Ho (v:=.ty "list") ⋯ T.b_list PyProof.Rows.Boot.«list» ⋯) A4))) A4))))) (Od (Ig (Dr (Bo Fi (hr.mono ∅) ⋯ (A3 (Ay (Bq (K:=K)) ⋯ T.b_tuple PyProof.Rows.Boot.«tuple» (A3 (pv 1) A4)) A4))))))) (A7 a98) Am)
  (A5 (L5 (C:=C_Keeper) (pv 0) (Ay (Bq (K:=K)) ⋯ T.b_tuple PyProof.Rows.Boot.«tuple» (A3 (pv 1) A4)) k_Keeper.cl k_Keeper.n_names ⋯)
  (A5 (L5 (C:=C_Keeper) (pv 0) (B6 (A3 (B6 A4) (A3 A9 A4))) k_Keeper.cl k_Keeper.n_now ⋯)
  (A5 (L5 (C:=C_Keeper) (pv 0) (Bz A4) k_Keeper.cl k_Keeper.n_past ⋯)
  (A7 (L5 (C:=C_Keeper) (pv 0) (Bz A4) k_Keeper.cl k_Keeper.n_undone ⋯)))))),?_⟩
 symm
 refine Az (Aa nofun) λt1 H1 ht1 e1 h1=>?_
 have hp1:=e1 _ _ hp
 have hS1:=hS.imp e1.seq e1.seqT
 symm
 refine aA1 (cs:=["tuple","list"]) (b:=true) hS1 h1 (by first | rfl | kernel_rfl) (by first | rfl | kernel_rfl) ?_
 symm
 refine Uz hS1 λa2 H2 e2 hS2=>?_
 symm
 refine⟨.ref a2,ns,rfl,Ov hS2,hN,h10,λH3 e3=>?_⟩
 have e13:=e2.trans e3
 symm
 refine Uz (hS1.imp e13.seq e13.seqT) λa4 H4 e4 hS4=>?_
 have hp4:=e4 _ _ (e13 _ _ hp1)
 symm
 refine Wx hp4 ∅ λH5 e5 h5=>?_
 replace h5:H5 p=some (.ins C_Keeper dx [("names",.ref a4)]):=h5
 have fz5:=e5.fzI hp4
 symm
 refine Az (Aa nofun) λt6 H6 ht6 e6 h6=>?_
 symm
 refine Az (Aa nofun) λt7 H7 ht7 e7 h7=>?_
 have h57:=e7 _ _ (e6 _ _ h5)
 symm
 refine Wx h57 (by show 1<1000;decide) λH8 e8 h8=>?_
 replace h8:H8 p=some (.ins C_Keeper dx [("names",.ref a4),("now",.ref t7)]):=h8
 have fz8:=e8.fzI h57
 symm
 refine B7 (Aa nofun) λpl H9 hpl e9 h9=>?_
 have h89:=e9 _ _ h8
 have hplp:pl≠p:=(ne_of_none h8 hpl).symm
 symm
 refine Wx h89 (by show 2<1000;decide) λH10 e10 h10'=>?_
 replace h10':H10 p=some (.ins C_Keeper dx [("names",.ref a4),("now",.ref t7),("past",.ref pl)]):=h10'
 have fz10:=e10.fzI h89
 symm
 refine B7 (Aa nofun) λul H11 hul e11 h11=>?_
 have h1011:=e11 _ _ h10'
 have hulp:ul≠p:=(ne_of_none h10' hul).symm
 symm
 refine Wx h1011 (by show 3<1000;decide) λH12 e12 h12=>?_
 replace h12:H12 p=some (.ins C_Keeper dx [("names",.ref a4),("now",.ref t7),("past",.ref pl),("undone",.ref ul)]):=h12
 have fz12:=e12.fzI h1011
 have fz812:=(e9.fz.trans fz10).trans (e11.fz.trans fz12)
 have fz712:=fz8.trans fz812
 symm
 refine k pl ul H12 ?_ ?_ ?_ ⟨⟨dx,.ref a4,t7,[],[],h12,Ov (((fz5.trans (e6.trans e7).fz).trans fz712).seq hS4),?_,e12 _ _ hplp (e11 _ _ (e10 _ _ hplp h9)),.nil,e12 _ _ hulp h11,.nil⟩,ne_of_none (e10 _ _ hplp h9) hul,hN,h10,⟨λe he=>(by cases he),λx g=>?_,by simp,by simp,λe he=>(by cases he),by omega⟩,λs hs=>(by cases hs),λs hs=>by cases hs⟩
 . have:H5 pl=none:=(e6.trans e7).free (Ja e8 hplp hpl)
   exact e1.free (e13.free (e4.free (Ja e5 hplp this)))
 . have:H5 ul=none:=(e6.trans e7).free (Ja e8 hulp (e9.free (Ja e10 hulp hul)))
   exact e1.free (e13.free (e4.free (Ja e5 hulp this)))
 . exact λb o hb q=>e12 _ _ hb (e11 _ _ (e10 _ _ hb (e9 _ _ (e8 _ _ hb (e7 _ _ (e6 _ _ (e5 _ _ hb (e4 _ _ (e13 _ _ (e1 _ _ q))))))))))
 . refine Is.of_tup (fz712.seq (SqT.of h7)) (.cons (Is.of_tup ((e7.fz.trans fz712).seq (SqT.of h6)) .nil) (.one Gy))
 have:=g.left
 simp at this
def aJ3 (K:PySem.W.Frag)(H:Hp)(C:Addr)(fs:List (Str×V))(C_NoName C_Clash C_NoSaying C_TooMany C_NoMore:Addr)(D:PyData):Prop:=
 (C=C_NoName/\∃ z,fs=[(("name":Str),V.str z)]/\D = .tuple [.str "name",.str z])\/(C=C_Clash/\∃ u js,fs=[(("way":Str),u)]/\Is K H (jsD js) u/\D = .tuple [.str "clash",jsD js]) \/
 (C=C_NoSaying/\∃ i,fs=[(("number":Str),V.int i)]/\D = .tuple [.str "saying",.int i])\/(C=C_TooMany/\fs=[(("word":Str),V.str "sayings")]/\D = .tuple [.str "many",.str "sayings"])\/(C=C_NoMore/\fs=[]/\D = .tuple [.str "more"])
theorem ax2 {L:List Addr}(h:L.Nodup){i j:Nat}{a b:Addr}(hi:L[i]? = some a)(hj:L[j]? = some b)(hij:i≠j):a≠b:=λe=>by
 subst e
 obtain⟨i1,i2⟩:=A03.mp hi
 obtain⟨j1,j2⟩:=A03.mp hj
 exact hij ((A1V h).mp (i2.trans j2.symm))
def G8 (C_NoName C_Clash C_NoSaying C_TooMany C_NoMore:Addr)(K:PySem.W.Frag):Sp:=λvs H Q _=>∃ a C fs D,vs=[.ref a]/\ExB false H a C fs/\aJ3 K H C fs C_NoName C_Clash C_NoSaying C_TooMany C_NoMore D/\∀ u H',Same H H'->Is K H' D u->Q u H'
theorem Ls {f:Addr}{fd:FuncData}(F:Fun K "_law_refusal" "_law_refusal" Cg f fd)(T:Fp mg){C_HalfError:Addr}{C_NoHalf:Addr}{C_NoText:Addr}{C_NoName:Addr}{C_TooMany:Addr}{C_NoCover:Addr}{C_NoPlace:Addr}{C_NoOrder:Addr}{C_NoJoin:Addr}{C_Clash:Addr}{C_NoPaper:Addr}{C_NoPlan:Addr}{C_NoBound:Addr}{C_NoSaying:Addr}{C_NoMore:Addr}(x_HalfError:Ao K mg C_HalfError C_HalfError)(x_NoHalf:L9 K mg C_NoHalf C_HalfError)(x_NoText:Qk K mg C_NoText C_HalfError)(x_NoName:Bv K mg C_NoName C_HalfError)(x_TooMany:Ge K mg C_TooMany C_HalfError)(x_NoCover:Ms K mg C_NoCover C_HalfError)(x_NoPlace:Nj K mg C_NoPlace C_HalfError)(x_NoOrder:Nx K mg C_NoOrder C_HalfError)(x_NoJoin:Pq K mg C_NoJoin C_HalfError)(x_Clash:Im K mg C_Clash C_HalfError)(x_NoPaper:Mn K mg C_NoPaper C_HalfError)(x_NoPlan:Pr K mg C_NoPlan C_HalfError)(x_NoBound:Nz K mg C_NoBound C_HalfError)(x_NoSaying:Dv K mg C_NoSaying C_HalfError)(x_NoMore:Hc K mg C_NoMore C_HalfError)(ndX:([C_HalfError,C_Clash,C_NoBound,C_NoCover,C_NoHalf,C_NoJoin,C_NoMore,C_NoName,C_NoOrder,C_NoPaper,C_NoPlace,C_NoPlan,C_NoSaying,C_NoText,C_TooMany]:List Addr).Nodup):ac6 P w K mg base 1 f fd ["_law_e"] (G8 C_NoName C_Clash C_NoSaying C_TooMany C_NoMore K):=by
 refine F.okH G5 (λvs H Q E h=>?_) (λcdv A outer s H vs Q E hr h=>?_)
 . obtain⟨a,C,fs,D,rfl,_⟩:=h
   rfl
 obtain⟨a,C,fs,D,rfl,hE,hR,k⟩:=h
 have hu:=av1 hr
 have hq:=ax1 hr
 obtain⟨xc,xm⟩:XC K C/\Di K C C_HalfError=true:=by
  rcases hR with ⟨rfl,_⟩ | ⟨rfl,_⟩ | ⟨rfl,_⟩ | ⟨rfl,_⟩ | ⟨rfl,_⟩
  . exact⟨x_NoName.xc,x_NoName.mr⟩
  . exact⟨x_Clash.xc,x_Clash.mr⟩
  . exact⟨x_NoSaying.xc,x_NoSaying.mr⟩
  . exact⟨x_TooMany.xc,x_TooMany.mr⟩
  exact⟨x_NoMore.xc,x_NoMore.mr⟩
 have kitY:∀ {A:Addr},XC K A->PySem.W.kitOne K (.ref C) (.ref A)=some (C==A||A==C_HalfError):=λhx=>an3 xc xm hx
 have kitN:∀ {A:Addr},XC K A->C≠A->A≠C_HalfError->PySem.W.kitOne K (.ref C) (.ref A)=some false:=λhx h1 h2=>by rw[kitY hx,A0W.mpr h1,A0W.mpr h2];rfl
 have kitS:(∀ A∈[C_NoBound,C_NoCover,C_NoHalf,C_NoJoin,C_NoOrder,C_NoPaper,C_NoPlace,C_NoPlan,C_NoText],C≠A/\A≠C_HalfError/\XC K A)->PySem.W.kitAny K (.ref C) ([C_NoBound,C_NoCover,C_NoHalf,C_NoJoin,C_NoOrder,C_NoPaper,C_NoPlace,C_NoPlan,C_NoText].map Value.ref)=some false:=λh=>by
  simp only[List.mem_cons,List.not_mem_nil,or_false,forall_eq_or_imp,forall_eq] at h
  obtain⟨⟨a0,b0,c0⟩,⟨a1,b1,c1⟩,⟨a2,b2,c2⟩,⟨a3,b3,c3⟩,⟨a4,b4,c4⟩,⟨a5,b5,c5⟩,⟨a6,b6,c6⟩,⟨a7,b7,c7⟩,⟨a8,b8,c8⟩⟩:=h
  simp only[List.map_cons,List.map_nil,PySem.W.kitAny,kitN c0 a0 b0,kitN c1 a1 b1,kitN c2 a2 b2,kitN c3 a3 b3,kitN c4 a4 b4,kitN c5 a5 b5,kitN c6 a6 b6,kitN c7 a7 b7,kitN c8 a8 b8]
 with_reducible refine⟨_,(A5 (Al (i:=1) G5.nd ⋯ (by eq_refl) (Bz A4))
  (A5 (Bc (Dr (Ag (G4 (K:=K)) ⋯ T.b_isinstance PyProof.Rows.Boot.«isinstance» (A3 (pv 0) (A3 (Ii (v:=.ref C_Clash) ⋯ ⟨_,x_Clash.gl,⋯⟩) A4)))) (A7 (Bf (Ff (K:=K) A0F A0O A0P (mm Bg) (pv 1) (A3 (B6 (A3 Ab (A3 (Lw (K:=K) (pv 0) ⋯) A4))) A4)))) Am)
  (A5 (Bc (Dr (Ag (G4 (K:=K)) ⋯ T.b_isinstance PyProof.Rows.Boot.«isinstance» (A3 (pv 0) (A3 (Ii (v:=.ref C_NoName) ⋯ ⟨_,x_NoName.gl,⋯⟩) A4)))) (A7 (Bf (Ff (K:=K) A0F A0O A0P (mm Bg) (pv 1) (A3 (B6 (A3 Ab (A3 (Lw (K:=K) (pv 0) ⋯) A4))) A4)))) Am)
  (A5 (Bc (Dr (Ag (G4 (K:=K)) ⋯ T.b_isinstance PyProof.Rows.Boot.«isinstance» (A3 (pv 0) (A3 (Ii (v:=.ref C_NoSaying) ⋯ ⟨_,x_NoSaying.gl,⋯⟩) A4)))) (A7 (Bf (Ff (K:=K) A0F A0O A0P (mm Bg) (pv 1) (A3 (B6 (A3 Ab (A3 (Lw (K:=K) (pv 0) ⋯) A4))) A4)))) Am)
  (A5 (Bc (Dr (Ag (G4 (K:=K)) ⋯ T.b_isinstance PyProof.Rows.Boot.«isinstance» (A3 (pv 0) (A3 (Ii (v:=.ref C_TooMany) ⋯ ⟨_,x_TooMany.gl,⋯⟩) A4)))) (A7 (Bf (Ff (K:=K) A0F A0O A0P (mm Bg) (pv 1) (A3 (B6 (A3 Ab (A3 (Lw (K:=K) (pv 0) ⋯) A4))) A4)))) Am)
  (A5 (Bc (Dr (Ag (G4 (K:=K)) ⋯ T.b_isinstance PyProof.Rows.Boot.«isinstance» (A3 (pv 0) (A3 (Ii (v:=.ref C_NoMore) ⋯ ⟨_,x_NoMore.gl,⋯⟩) A4)))) (A7 (Bf (Ff (K:=K) A0F A0O A0P (mm Bg) (pv 1) (A3 (B6 (A3 Ab A4)) A4)))) Am)
  (A5 (Al (i:=2) G5.nd ⋯ (by eq_refl) (Ag (G4 (K:=K)) ⋯ T.b_isinstance PyProof.Rows.Boot.«isinstance» (A3 (pv 0) (A3 (B6 (A3 (Ii (v:=.ref C_NoBound) ⋯ ⟨_,x_NoBound.gl,⋯⟩) (A3 (Ii (v:=.ref C_NoCover) ⋯ ⟨_,x_NoCover.gl,⋯⟩) (A3 (Ii (v:=.ref C_NoHalf) ⋯ ⟨_,x_NoHalf.gl,⋯⟩) (A3 (Ii (v:=.ref C_NoJoin) ⋯ ⟨_,x_NoJoin.gl,⋯⟩) (A3 (Ii (v:=.ref C_NoOrder) ⋯ ⟨_,x_NoOrder.gl,⋯⟩) (A3 (Ii (v:=.ref C_NoPaper) ⋯ ⟨_,x_NoPaper.gl,⋯⟩) (A3 (Ii (v:=.ref C_NoPlace) ⋯ ⟨_,x_NoPlace.gl,⋯⟩) (A3 (Ii (v:=.ref C_NoPlan) ⋯ ⟨_,x_NoPlan.gl,⋯⟩) (A3 (Ii (v:=.ref C_NoText) ⋯ ⟨_,x_NoText.gl,⋯⟩) A4)))))))))) A4))))
  (A7 (Ap (M6 (PW.pt (To (Ai (B5 (K:=K) hq) (Ag (C7 (K:=K)) ⋯ T.b_len PyProof.Rows.Boot.«len» (A3 (pv 1) A4)) A9 (An _)) (To (Ig (Dr (pv 2))) (Rp (Dr (Ag (G4 (K:=K)) ⋯ T.b_isinstance PyProof.Rows.Boot.«isinstance» (A3 (pv 0) (A3 (Ho (v:=.ty "ValueError") ⋯ T.b_ValueError PyProof.Rows.Boot.«ValueError» ⋯) A4)))))))) (Af (A8 (K:=K) hu) (pv 1) A9 (by ac_rfl)) (B6 (A3 Ab A4)))))))))))),?_⟩
 symm
 refine B7 (Aa nofun) λl H1 hl1 e1 h1=>?_
 have hE1:=hE.same e1
 have fld:∀ {i j:Nat} {A B:Addr},[C_HalfError,C_Clash,C_NoBound,C_NoCover,C_NoHalf,C_NoJoin,C_NoMore,C_NoName,C_NoOrder,C_NoPaper,C_NoPlace,C_NoPlan,C_NoSaying,C_NoText,C_TooMany][i]? = some A->[C_HalfError,C_Clash,C_NoBound,C_NoCover,C_NoHalf,C_NoJoin,C_NoMore,C_NoName,C_NoOrder,C_NoPaper,C_NoPlace,C_NoPlan,C_NoSaying,C_NoText,C_TooMany][j]? = some B->i≠j->A≠B:=λh1 h2 h3=>ax2 ndX h1 h2 h3
 rcases hR with ⟨rfl,z,rfl,rfl⟩ | ⟨rfl,u,js,rfl,hU,rfl⟩ | ⟨rfl,i,rfl,rfl⟩ | ⟨rfl,rfl,rfl⟩ | ⟨rfl,rfl,rfl⟩
 . symm
   refine Fl hE1 xc (kitN x_Clash.xc (fld (i:=7) (j:=1) rfl rfl ∅) (fld (i:=1) (j:=0) rfl rfl ∅)) ?_
   symm
   refine Fl hE1 xc (show _=some true by rw[kitY x_NoName.xc,A1Q,A3R]) ?_
   symm
   refine Vf hE1 xc x_NoName.n_name (show _=some _ from rfl) ?_
   symm
   refine Az (Aa nofun) λt2 H2 ht2 e2 h2=>?_
   symm
   refine Fo (e2 _ _ h1) nofun λH3 e3 h3=>?_
   have e03:Same H H3:=(e1.trans e2).off hl1 e3
   have hE3:=hE.same e03
   have ht3:SqT K H3 t2 _:=(e3.fzL (e2 _ _ h1)).seq (SqT.of h2)
   symm
   refine Fl hE3 xc (kitN x_NoSaying.xc (fld (i:=7) (j:=12) rfl rfl ∅) (fld (i:=12) (j:=0) rfl rfl ∅)) ?_
   symm
   refine Fl hE3 xc (kitN x_TooMany.xc (fld (i:=7) (j:=14) rfl rfl ∅) (fld (i:=14) (j:=0) rfl rfl ∅)) ?_
   symm
   refine Fl hE3 xc (kitN x_NoMore.xc (fld (i:=7) (j:=6) rfl rfl ∅) (fld (i:=6) (j:=0) rfl rfl ∅)) ?_
   symm
   refine Az (Aa nofun) λt4 H4 ht4 e4 h4=>?_
   have hE4:=hE3.same e4
   have e0n:Same H H4:=e03.trans e4
   symm
   refine Sk (cs:=[C_NoBound,C_NoCover,C_NoHalf,C_NoJoin,C_NoOrder,C_NoPaper,C_NoPlace,C_NoPlan,C_NoText]) hE4 xc h4 (kitS λA hA=>?_) ?_
   . simp only[List.mem_cons,List.not_mem_nil,or_false] at hA
     rcases hA with rfl | rfl | rfl | rfl | rfl | rfl | rfl | rfl | rfl
     . exact⟨fld (i:=7) (j:=2) rfl rfl ∅,fld (i:=2) (j:=0) rfl rfl ∅,x_NoBound.xc⟩
     . exact⟨fld (i:=7) (j:=3) rfl rfl ∅,fld (i:=3) (j:=0) rfl rfl ∅,x_NoCover.xc⟩
     . exact⟨fld (i:=7) (j:=4) rfl rfl ∅,fld (i:=4) (j:=0) rfl rfl ∅,x_NoHalf.xc⟩
     . exact⟨fld (i:=7) (j:=5) rfl rfl ∅,fld (i:=5) (j:=0) rfl rfl ∅,x_NoJoin.xc⟩
     . exact⟨fld (i:=7) (j:=8) rfl rfl ∅,fld (i:=8) (j:=0) rfl rfl ∅,x_NoOrder.xc⟩
     . exact⟨fld (i:=7) (j:=9) rfl rfl ∅,fld (i:=9) (j:=0) rfl rfl ∅,x_NoPaper.xc⟩
     . exact⟨fld (i:=7) (j:=10) rfl rfl ∅,fld (i:=10) (j:=0) rfl rfl ∅,x_NoPlace.xc⟩
     . exact⟨fld (i:=7) (j:=11) rfl rfl ∅,fld (i:=11) (j:=0) rfl rfl ∅,x_NoPlan.xc⟩
     exact⟨fld (i:=7) (j:=13) rfl rfl ∅,fld (i:=13) (j:=0) rfl rfl ∅,x_NoText.xc⟩
   symm
   refine R0 ?_
   have h4l:=e4 _ _ h3
   symm
   refine Fh (λ_=>?_) (λhc=>absurd rfl hc)
   symm
   refine So hE4 xc (Nn xm) ?_
   symm
   refine Eh h4l (v:=.ref t2) (C5 (j:=0) rfl) ?_
   symm
   exact k _ H4 e0n (Is.of_tup (e4.seqT ht3) (.cons Dp (.one Dp)))
 . symm
   refine Fl hE1 xc (show _=some true by rw[kitY x_Clash.xc,A1Q,A3R]) ?_
   symm
   refine Vf hE1 xc x_Clash.n_way (show _=some _ from rfl) ?_
   symm
   refine Az (Aa nofun) λt2 H2 ht2 e2 h2=>?_
   symm
   refine Fo (e2 _ _ h1) nofun λH3 e3 h3=>?_
   have e03:Same H H3:=(e1.trans e2).off hl1 e3
   have hE3:=hE.same e03
   have ht3:SqT K H3 t2 _:=(e3.fzL (e2 _ _ h1)).seq (SqT.of h2)
   symm
   refine Fl hE3 xc (kitN x_NoName.xc (fld (i:=1) (j:=7) rfl rfl ∅) (fld (i:=7) (j:=0) rfl rfl ∅)) ?_
   symm
   refine Fl hE3 xc (kitN x_NoSaying.xc (fld (i:=1) (j:=12) rfl rfl ∅) (fld (i:=12) (j:=0) rfl rfl ∅)) ?_
   symm
   refine Fl hE3 xc (kitN x_TooMany.xc (fld (i:=1) (j:=14) rfl rfl ∅) (fld (i:=14) (j:=0) rfl rfl ∅)) ?_
   symm
   refine Fl hE3 xc (kitN x_NoMore.xc (fld (i:=1) (j:=6) rfl rfl ∅) (fld (i:=6) (j:=0) rfl rfl ∅)) ?_
   symm
   refine Az (Aa nofun) λt4 H4 ht4 e4 h4=>?_
   have hE4:=hE3.same e4
   have e0n:Same H H4:=e03.trans e4
   symm
   refine Sk (cs:=[C_NoBound,C_NoCover,C_NoHalf,C_NoJoin,C_NoOrder,C_NoPaper,C_NoPlace,C_NoPlan,C_NoText]) hE4 xc h4 (kitS λA hA=>?_) ?_
   . simp only[List.mem_cons,List.not_mem_nil,or_false] at hA
     rcases hA with rfl | rfl | rfl | rfl | rfl | rfl | rfl | rfl | rfl
     . exact⟨fld (i:=1) (j:=2) rfl rfl ∅,fld (i:=2) (j:=0) rfl rfl ∅,x_NoBound.xc⟩
     . exact⟨fld (i:=1) (j:=3) rfl rfl ∅,fld (i:=3) (j:=0) rfl rfl ∅,x_NoCover.xc⟩
     . exact⟨fld (i:=1) (j:=4) rfl rfl ∅,fld (i:=4) (j:=0) rfl rfl ∅,x_NoHalf.xc⟩
     . exact⟨fld (i:=1) (j:=5) rfl rfl ∅,fld (i:=5) (j:=0) rfl rfl ∅,x_NoJoin.xc⟩
     . exact⟨fld (i:=1) (j:=8) rfl rfl ∅,fld (i:=8) (j:=0) rfl rfl ∅,x_NoOrder.xc⟩
     . exact⟨fld (i:=1) (j:=9) rfl rfl ∅,fld (i:=9) (j:=0) rfl rfl ∅,x_NoPaper.xc⟩
     . exact⟨fld (i:=1) (j:=10) rfl rfl ∅,fld (i:=10) (j:=0) rfl rfl ∅,x_NoPlace.xc⟩
     . exact⟨fld (i:=1) (j:=11) rfl rfl ∅,fld (i:=11) (j:=0) rfl rfl ∅,x_NoPlan.xc⟩
     exact⟨fld (i:=1) (j:=13) rfl rfl ∅,fld (i:=13) (j:=0) rfl rfl ∅,x_NoText.xc⟩
   symm
   refine R0 ?_
   have h4l:=e4 _ _ h3
   symm
   refine Fh (λ_=>?_) (λhc=>absurd rfl hc)
   symm
   refine So hE4 xc (Nn xm) ?_
   symm
   refine Eh h4l (v:=.ref t2) (C5 (j:=0) rfl) ?_
   symm
   exact k _ H4 e0n (Is.of_tup (e4.seqT ht3) (.cons Dp (.one (Is.mono e0n _ _ hU))))
 . symm
   refine Fl hE1 xc (kitN x_Clash.xc (fld (i:=12) (j:=1) rfl rfl ∅) (fld (i:=1) (j:=0) rfl rfl ∅)) ?_
   symm
   refine Fl hE1 xc (kitN x_NoName.xc (fld (i:=12) (j:=7) rfl rfl ∅) (fld (i:=7) (j:=0) rfl rfl ∅)) ?_
   symm
   refine Fl hE1 xc (show _=some true by rw[kitY x_NoSaying.xc,A1Q,A3R]) ?_
   symm
   refine Vf hE1 xc x_NoSaying.n_number (show _=some _ from rfl) ?_
   symm
   refine Az (Aa nofun) λt2 H2 ht2 e2 h2=>?_
   symm
   refine Fo (e2 _ _ h1) nofun λH3 e3 h3=>?_
   have e03:Same H H3:=(e1.trans e2).off hl1 e3
   have hE3:=hE.same e03
   have ht3:SqT K H3 t2 _:=(e3.fzL (e2 _ _ h1)).seq (SqT.of h2)
   symm
   refine Fl hE3 xc (kitN x_TooMany.xc (fld (i:=12) (j:=14) rfl rfl ∅) (fld (i:=14) (j:=0) rfl rfl ∅)) ?_
   symm
   refine Fl hE3 xc (kitN x_NoMore.xc (fld (i:=12) (j:=6) rfl rfl ∅) (fld (i:=6) (j:=0) rfl rfl ∅)) ?_
   symm
   refine Az (Aa nofun) λt4 H4 ht4 e4 h4=>?_
   have hE4:=hE3.same e4
   have e0n:Same H H4:=e03.trans e4
   symm
   refine Sk (cs:=[C_NoBound,C_NoCover,C_NoHalf,C_NoJoin,C_NoOrder,C_NoPaper,C_NoPlace,C_NoPlan,C_NoText]) hE4 xc h4 (kitS λA hA=>?_) ?_
   . simp only[List.mem_cons,List.not_mem_nil,or_false] at hA
     rcases hA with rfl | rfl | rfl | rfl | rfl | rfl | rfl | rfl | rfl
     . exact⟨fld (i:=12) (j:=2) rfl rfl ∅,fld (i:=2) (j:=0) rfl rfl ∅,x_NoBound.xc⟩
     . exact⟨fld (i:=12) (j:=3) rfl rfl ∅,fld (i:=3) (j:=0) rfl rfl ∅,x_NoCover.xc⟩
     . exact⟨fld (i:=12) (j:=4) rfl rfl ∅,fld (i:=4) (j:=0) rfl rfl ∅,x_NoHalf.xc⟩
     . exact⟨fld (i:=12) (j:=5) rfl rfl ∅,fld (i:=5) (j:=0) rfl rfl ∅,x_NoJoin.xc⟩
     . exact⟨fld (i:=12) (j:=8) rfl rfl ∅,fld (i:=8) (j:=0) rfl rfl ∅,x_NoOrder.xc⟩
     . exact⟨fld (i:=12) (j:=9) rfl rfl ∅,fld (i:=9) (j:=0) rfl rfl ∅,x_NoPaper.xc⟩
     . exact⟨fld (i:=12) (j:=10) rfl rfl ∅,fld (i:=10) (j:=0) rfl rfl ∅,x_NoPlace.xc⟩
     . exact⟨fld (i:=12) (j:=11) rfl rfl ∅,fld (i:=11) (j:=0) rfl rfl ∅,x_NoPlan.xc⟩
     exact⟨fld (i:=12) (j:=13) rfl rfl ∅,fld (i:=13) (j:=0) rfl rfl ∅,x_NoText.xc⟩
   symm
   refine R0 ?_
   have h4l:=e4 _ _ h3
   symm
   refine Fh (λ_=>?_) (λhc=>absurd rfl hc)
   symm
   refine So hE4 xc (Nn xm) ?_
   symm
   refine Eh h4l (v:=.ref t2) (C5 (j:=0) rfl) ?_
   symm
   exact k _ H4 e0n (Is.of_tup (e4.seqT ht3) (.cons Dp (.one Gy)))
 . symm
   refine Fl hE1 xc (kitN x_Clash.xc (fld (i:=14) (j:=1) rfl rfl ∅) (fld (i:=1) (j:=0) rfl rfl ∅)) ?_
   symm
   refine Fl hE1 xc (kitN x_NoName.xc (fld (i:=14) (j:=7) rfl rfl ∅) (fld (i:=7) (j:=0) rfl rfl ∅)) ?_
   symm
   refine Fl hE1 xc (kitN x_NoSaying.xc (fld (i:=14) (j:=12) rfl rfl ∅) (fld (i:=12) (j:=0) rfl rfl ∅)) ?_
   symm
   refine Fl hE1 xc (show _=some true by rw[kitY x_TooMany.xc,A1Q,A3R]) ?_
   symm
   refine Vf hE1 xc x_TooMany.n_word (show _=some _ from rfl) ?_
   symm
   refine Az (Aa nofun) λt2 H2 ht2 e2 h2=>?_
   symm
   refine Fo (e2 _ _ h1) nofun λH3 e3 h3=>?_
   have e03:Same H H3:=(e1.trans e2).off hl1 e3
   have hE3:=hE.same e03
   have ht3:SqT K H3 t2 _:=(e3.fzL (e2 _ _ h1)).seq (SqT.of h2)
   symm
   refine Fl hE3 xc (kitN x_NoMore.xc (fld (i:=14) (j:=6) rfl rfl ∅) (fld (i:=6) (j:=0) rfl rfl ∅)) ?_
   symm
   refine Az (Aa nofun) λt4 H4 ht4 e4 h4=>?_
   have hE4:=hE3.same e4
   have e0n:Same H H4:=e03.trans e4
   symm
   refine Sk (cs:=[C_NoBound,C_NoCover,C_NoHalf,C_NoJoin,C_NoOrder,C_NoPaper,C_NoPlace,C_NoPlan,C_NoText]) hE4 xc h4 (kitS λA hA=>?_) ?_
   . simp only[List.mem_cons,List.not_mem_nil,or_false] at hA
     rcases hA with rfl | rfl | rfl | rfl | rfl | rfl | rfl | rfl | rfl
     . exact⟨fld (i:=14) (j:=2) rfl rfl ∅,fld (i:=2) (j:=0) rfl rfl ∅,x_NoBound.xc⟩
     . exact⟨fld (i:=14) (j:=3) rfl rfl ∅,fld (i:=3) (j:=0) rfl rfl ∅,x_NoCover.xc⟩
     . exact⟨fld (i:=14) (j:=4) rfl rfl ∅,fld (i:=4) (j:=0) rfl rfl ∅,x_NoHalf.xc⟩
     . exact⟨fld (i:=14) (j:=5) rfl rfl ∅,fld (i:=5) (j:=0) rfl rfl ∅,x_NoJoin.xc⟩
     . exact⟨fld (i:=14) (j:=8) rfl rfl ∅,fld (i:=8) (j:=0) rfl rfl ∅,x_NoOrder.xc⟩
     . exact⟨fld (i:=14) (j:=9) rfl rfl ∅,fld (i:=9) (j:=0) rfl rfl ∅,x_NoPaper.xc⟩
     . exact⟨fld (i:=14) (j:=10) rfl rfl ∅,fld (i:=10) (j:=0) rfl rfl ∅,x_NoPlace.xc⟩
     . exact⟨fld (i:=14) (j:=11) rfl rfl ∅,fld (i:=11) (j:=0) rfl rfl ∅,x_NoPlan.xc⟩
     exact⟨fld (i:=14) (j:=13) rfl rfl ∅,fld (i:=13) (j:=0) rfl rfl ∅,x_NoText.xc⟩
   symm
   refine R0 ?_
   have h4l:=e4 _ _ h3
   symm
   refine Fh (λ_=>?_) (λhc=>absurd rfl hc)
   symm
   refine So hE4 xc (Nn xm) ?_
   symm
   refine Eh h4l (v:=.ref t2) (C5 (j:=0) rfl) ?_
   symm
   exact k _ H4 e0n (Is.of_tup (e4.seqT ht3) (.cons Dp (.one Dp)))
 symm
 refine Fl hE1 xc (kitN x_Clash.xc (fld (i:=6) (j:=1) rfl rfl ∅) (fld (i:=1) (j:=0) rfl rfl ∅)) ?_
 symm
 refine Fl hE1 xc (kitN x_NoName.xc (fld (i:=6) (j:=7) rfl rfl ∅) (fld (i:=7) (j:=0) rfl rfl ∅)) ?_
 symm
 refine Fl hE1 xc (kitN x_NoSaying.xc (fld (i:=6) (j:=12) rfl rfl ∅) (fld (i:=12) (j:=0) rfl rfl ∅)) ?_
 symm
 refine Fl hE1 xc (kitN x_TooMany.xc (fld (i:=6) (j:=14) rfl rfl ∅) (fld (i:=14) (j:=0) rfl rfl ∅)) ?_
 symm
 refine Fl hE1 xc (show _=some true by rw[kitY x_NoMore.xc,A1Q,A3R]) ?_
 symm
 refine Az (Aa nofun) λt2 H2 ht2 e2 h2=>?_
 symm
 refine Fo (e2 _ _ h1) nofun λH3 e3 h3=>?_
 have e03:Same H H3:=(e1.trans e2).off hl1 e3
 have hE3:=hE.same e03
 have ht3:SqT K H3 t2 _:=(e3.fzL (e2 _ _ h1)).seq (SqT.of h2)
 symm
 refine Az (Aa nofun) λt4 H4 ht4 e4 h4=>?_
 have hE4:=hE3.same e4
 have e0n:Same H H4:=e03.trans e4
 symm
 refine Sk (cs:=[C_NoBound,C_NoCover,C_NoHalf,C_NoJoin,C_NoOrder,C_NoPaper,C_NoPlace,C_NoPlan,C_NoText]) hE4 xc h4 (kitS λA hA=>?_) ?_
 . simp only[List.mem_cons,List.not_mem_nil,or_false] at hA
   rcases hA with rfl | rfl | rfl | rfl | rfl | rfl | rfl | rfl | rfl
   . exact⟨fld (i:=6) (j:=2) rfl rfl ∅,fld (i:=2) (j:=0) rfl rfl ∅,x_NoBound.xc⟩
   . exact⟨fld (i:=6) (j:=3) rfl rfl ∅,fld (i:=3) (j:=0) rfl rfl ∅,x_NoCover.xc⟩
   . exact⟨fld (i:=6) (j:=4) rfl rfl ∅,fld (i:=4) (j:=0) rfl rfl ∅,x_NoHalf.xc⟩
   . exact⟨fld (i:=6) (j:=5) rfl rfl ∅,fld (i:=5) (j:=0) rfl rfl ∅,x_NoJoin.xc⟩
   . exact⟨fld (i:=6) (j:=8) rfl rfl ∅,fld (i:=8) (j:=0) rfl rfl ∅,x_NoOrder.xc⟩
   . exact⟨fld (i:=6) (j:=9) rfl rfl ∅,fld (i:=9) (j:=0) rfl rfl ∅,x_NoPaper.xc⟩
   . exact⟨fld (i:=6) (j:=10) rfl rfl ∅,fld (i:=10) (j:=0) rfl rfl ∅,x_NoPlace.xc⟩
   . exact⟨fld (i:=6) (j:=11) rfl rfl ∅,fld (i:=11) (j:=0) rfl rfl ∅,x_NoPlan.xc⟩
   exact⟨fld (i:=6) (j:=13) rfl rfl ∅,fld (i:=13) (j:=0) rfl rfl ∅,x_NoText.xc⟩
 symm
 refine R0 ?_
 have h4l:=e4 _ _ h3
 symm
 refine Fh (λ_=>?_) (λhc=>absurd rfl hc)
 symm
 refine So hE4 xc (Nn xm) ?_
 symm
 refine Eh h4l (v:=.ref t2) (C5 (j:=0) rfl) ?_
 symm
 exact k _ H4 e0n (Is.of_tup (e4.seqT ht3) (.one Dp))
def aB5 (es:List (Nat×(Str×Str)))(js:List Nat):PyData:=jsD (js.map λj=>(es.getD j (0,("",""))).1)
def C9 (C:Addr)(K:PySem.W.Frag):Sp:=λvs H Q _=>∃ p pl ul ns S pa un w v1 v2,vs=[.ref p,.str w,v1,v2]/\KpH K C H p pl ul ns S pa un/\pa.length<900/\un.length<900 /\
 ((w=("say":Str)/\∃ x y,v1 = .str x/\v2 = .str y/\S.2<1000/\(∀ z u H',ae6 ns [x,y] z->Same H H'->Is K H' (.tuple [.str "name",.str z]) u->Q u H') /\
   (x∈ns->y∈ns->(∀ u H' js os,Same H H'->Is K H' (.tuple [.str "clash",aB5 S.1 js]) u->js.length<=1000->Trl (S.1.map (·.2)) y js x os->Q u H') /\
    (x≠y->¬ Way (S.1.map (·.2)) y x->60<=S.1.length->∀ u H',Same H H'->Is K H' (.tuple [.str "many",.str "sayings"]) u->Q u H') /\
    (x≠y->¬ Way (S.1.map (·.2)) y x->S.1.length<60->∀ ul' H',H ul'=none->Ur p pl H H'->Fz H H'->KpH K C H' p pl ul' ns (S.1++[(S.2,(x,y))],S.2+1) (pa++[S]) []->Q (.int ((S.2:Nat):Int)) H'))) \/
  (w=("take":Str)/\∃ i,v1 = .int i/\(∀ m q,(m,q)∈S.1->((m:Nat):Int)=i->∀ ul' H',H ul'=none->Ur p pl H H'->Fz H H'->KpH K C H' p pl ul' ns (Rr m S.1,S.2) (pa++[S]) []->Q .non H')/\((∀ e∈S.1,((e.1:Nat):Int)≠i)->∀ u H',Same H H'->Is K H' (.tuple [.str "saying",.int i]) u->Q u H')) \/
  (w=("undo":Str)/\(pa=[]->∀ u H',Same H H'->Is K H' (.tuple [.str "more"]) u->Q u H')/\(∀ S0 pa',pa=pa'++[S0]->∀ H',Y9 p pl ul H H'->Fz H H'->KpH K C H' p pl ul ns S0 pa' (un++[S])->Q .non H')) \/
  (w=("redo":Str)/\(un=[]->∀ u H',Same H H'->Is K H' (.tuple [.str "more"]) u->Q u H')/\(∀ S1 un',un=un'++[S1]->∀ H',Y9 p pl ul H H'->Fz H H'->KpH K C H' p pl ul ns S1 (pa++[S]) un'->Q .non H')) \/
  (w=("saying":Str)/\∃ i,v1 = .int i/\(∀ e∈S.1,((e.1:Nat):Int)=i->∀ u,Is K H (prD e.2) u->Q u H)/\((∀ e∈S.1,((e.1:Nat):Int)≠i)->∀ u H',Same H H'->Is K H' (.tuple [.str "saying",.int i]) u->Q u H')) \/
  (w=("lead":Str)/\∃ x y,v1 = .str x/\v2 = .str y/\(∀ z u H',ae6 ns [x,y] z->Same H H'->Is K H' (.tuple [.str "name",.str z]) u->Q u H')/\(x∈ns->y∈ns->∀ u H',Same H H'->aw3 K H' S.1 x y u->Q u H')) \/
  (w=("knows":Str)/\∃ x y,v1 = .str x/\v2 = .str y/\(∀ z u H',ae6 ns [x,y] z->Same H H'->Is K H' (.tuple [.str "name",.str z]) u->Q u H')/\(x∈ns->y∈ns->∀ H',Same H H'->Q (knV (S.1.map (·.2)) x y) H')))
local macro_rules | `(tactic| walk_at "rq1") => L2.mAlts "i_nxS i_tMeth"
theorem aC1 {K:PySem.W.Frag}{C B:Addr}(hm:Di K C B=true):PySem.W.mroIn K C (.ref B)=some true:=by
 obtain⟨cd,hc,hx⟩:=A42 hm
 unfold PySem.W.mroIn
 rw[hc,A44,A1M.mp hx,A0Y nofun,A1J,A1J,A1Q,A3R,A3Q]
theorem Ml {f:Addr}{fd:FuncData}(F:Fun K "_law_told_by" "_law_told_by" Ci f fd)(T:Fp mg){C_Keeper:Addr}(k_Keeper:Aq K C_Keeper){C_HalfError:Addr}{C_NoName:Addr}{C_TooMany:Addr}{C_Clash:Addr}{C_NoSaying:Addr}{C_NoMore:Addr}(x_HalfError:Ao K mg C_HalfError C_HalfError)(x_NoName:Bv K mg C_NoName C_HalfError)(x_TooMany:Ge K mg C_TooMany C_HalfError)(x_Clash:Im K mg C_Clash C_HalfError)(x_NoSaying:Dv K mg C_NoSaying C_HalfError)(x_NoMore:Hc K mg C_NoMore C_HalfError)(ndX:([C_HalfError,C_Clash,C_NoBound,C_NoCover,C_NoHalf,C_NoJoin,C_NoMore,C_NoName,C_NoOrder,C_NoPaper,C_NoPlace,C_NoPlan,C_NoSaying,C_NoText,C_TooMany]:List Addr).Nodup)(J8:T7 P w K mg base 4 C_Keeper "say" ["self","name","other"] (Gq C_Keeper C_NoName C_Clash C_TooMany K))(Ia:T7 P w K mg base 4 C_Keeper "take" ["self","number"] (G9 C_Keeper C_NoSaying K))(Ht:T7 P w K mg base 1 C_Keeper "undo" ["self"] (Gf C_Keeper C_NoMore K))(Hm:T7 P w K mg base 1 C_Keeper "redo" ["self"] (G1 C_Keeper C_NoMore K))(C8:T7 P w K mg base 3 C_Keeper "saying" ["self","number"] (Cz C_Keeper C_NoSaying K))(Gr:T7 P w K mg base 4 C_Keeper "knows" ["self","name","other"] (Fj C_Keeper C_NoName K))(Hx:T7 P w K mg base 4 C_Keeper "lead" ["self","name","other"] (G3 C_Keeper C_NoName K))(h__law_refusal:aF5 P w K mg base 1 "_law_refusal" ["_law_e"] (G8 C_NoName C_Clash C_NoSaying C_TooMany C_NoMore K)):FnOk P w K mg base CX0 5 f fd ["_law_keeper","_law_word","_law_one","_law_other"] (C9 C_Keeper K):=by
 refine F.ok B2 (λvs H Q E h=>?_) (λcdv A outer s H vs Q E hr h=>?_)
 . obtain⟨p,pl,ul,ns,S,pa,un,w,v1,v2,rfl,_⟩:=h
   rfl
 obtain⟨p,pl,ul,ns,S,pa,un,w,v1,v2,rfl,hK,hpa,hun,hw⟩:=h
 have hu:=Cc hr
 have hq:=Cd hr
 obtain⟨xG,hG⟩:∃ G:Addr->Hp->Prop,G=λa H'=>∃ C fs D,XC K C/\Di K C C_HalfError=true/\ExB false H' a C fs/\aJ3 K H' C fs C_NoName C_Clash C_NoSaying C_TooMany C_NoMore D/\∀ u H'',Same H' H''->Is K H'' D u->Q u H'':=⟨_,rfl⟩
 obtain⟨dx,nv,w0,pv0,uv0,h1,h2,h3⟩:=hK.at.ex
 have hnd:(S.1.map (·.1)).Nodup:=hK.vs.so.imp λq=>A0J q
 with_reducible refine⟨_,(A5 (Al (i:=4) B2.nd ⋯ (by eq_refl) Ih)
  (A5 (aC5 (i:=5) xG B2.nd ⋯ ⋯ ⋯ x_HalfError.gl x_HalfError.xc ⋯ ⋯ ⋯ (λ_ _ hps=>(A7 (Bc (Ai (B5 (K:=K) hq) (pv 1) Ab (An _)) (A7 (Al (i:=4) B2.nd ⋯ (by eq_refl) (Qh (C:=C_Keeper) (pv 0) k_Keeper.cl J8 (hr.mono ∅) hps (A3 (pv 2) (A3 (pv 3) A4))))) (A7 (Bc (Ai (B5 (K:=K) hq) (pv 1) Ab (An _)) (A7 (Al (i:=4) B2.nd ⋯ (by eq_refl) (Qh (C:=C_Keeper) (pv 0) k_Keeper.cl Ia (hr.mono ∅) hps (A3 (pv 2) A4)))) (A7 (Bc (Ai (B5 (K:=K) hq) (pv 1) Ab (An _)) (A7 (Al (i:=4) B2.nd ⋯ (by eq_refl) (Xu (C:=C_Keeper) (pv 0) k_Keeper.cl Ht (hr.mono ∅) hps))) (A7 (Bc (Ai (B5 (K:=K) hq) (pv 1) Ab (An _)) (A7 (Al (i:=4) B2.nd ⋯ (by eq_refl) (Xu (C:=C_Keeper) (pv 0) k_Keeper.cl Hm (hr.mono ∅) hps))) (A7 (Bc (Ai (B5 (K:=K) hq) (pv 1) Ab (An _)) (A7 (Al (i:=4) B2.nd ⋯ (by eq_refl) (Qh (C:=C_Keeper) (pv 0) k_Keeper.cl C8 (hr.mono ∅) hps (A3 (pv 2) A4)))) (A7 (Al (i:=4) B2.nd ⋯ (by eq_refl) (M6 (Ai (B5 (K:=K) hq) (pv 1) Ab (An _)) (Qh (C:=C_Keeper) (pv 0) k_Keeper.cl Hx (hr.mono ∅) hps (A3 (pv 2) (A3 (pv 3) A4))) (Qh (C:=C_Keeper) (pv 0) k_Keeper.cl Gr (hr.mono ∅) hps (A3 (pv 2) (A3 (pv 3) A4)))))))))))))))))
  (λ_ _=>(A7 (Al (i:=4) B2.nd ⋯ (by eq_refl) (au7 h__law_refusal ((hr.mono ∅).h _) ⋯ (A3 (pv 5) A4))))))
  (A7 (Ap (pv 4))))),?_⟩
 symm
 refine⟨?_,λa H' σ' hl hg=>?_⟩
 . rcases hw with ⟨rfl,x,y,rfl,rfl,hn,k1,k2⟩ | ⟨rfl,i,rfl,k2,k1⟩ | ⟨rfl,k1,k2⟩ | ⟨rfl,k1,k2⟩ | ⟨rfl,i,rfl,k1,k2⟩ | ⟨rfl,x,y,rfl,rfl,k1,k2⟩ | ⟨rfl,x,y,rfl,rfl,k1,k2⟩
   . symm
     refine Jm h1 (by rfl) ?_
     symm
     refine⟨p,pl,ul,ns,S,pa,un,x,y,rfl,hK,hpa,λz hz a H' e hE=>⟨a,rfl,by rw[hG];exact⟨C_NoName,_,_,x_NoName.xc,x_NoName.mr,hE,.inl ⟨rfl,z,rfl,rfl⟩,λu H'' e2 hu=>k1 z u H'' hz (e.trans e2) hu⟩⟩,λhx hy=>⟨λa H' u js os e hE hI hl hT=>⟨a,rfl,by rw[hG];exact⟨C_Clash,_,_,x_Clash.xc,x_Clash.mr,hE,.inr (.inl ⟨rfl,u,_,rfl,hI,rfl⟩),λu H'' e2 hu=>(k2 hx hy).1 _ H'' js os (e.trans e2) hu hl hT⟩⟩,λhq a H' e hE=>⟨a,rfl,by rw[hG];exact⟨C_TooMany,_,_,x_TooMany.xc,x_TooMany.mr,hE,.inr (.inr (.inr (.inl ⟨rfl,rfl,rfl⟩))),λu H'' e2 hu=>(k2 hx hy).2.1 hq.1 hq.2.1 hq.2.2 u H'' (e.trans e2) hu⟩⟩,λhq=>⟨hn,λul' H' hul' kp fz hK'=>?_⟩⟩⟩
     symm
     exact(k2 hx hy).2.2 hq.1 hq.2.1 hq.2.2 ul' H' hul' kp fz hK'
   . symm
     refine Fh (λhc=>absurd hc (by decide +kernel)) (λ_=>?_)
     symm
     refine Jm h1 (by rfl) ?_
     symm
     refine⟨p,pl,ul,ns,S,pa,un,i,rfl,hK,hpa,λm q hm hi ul' H' hul' kp fz hK'=>?_,λhno a H' e hE=>⟨a,rfl,by rw[hG];exact⟨C_NoSaying,_,_,x_NoSaying.xc,x_NoSaying.mr,hE,.inr (.inr (.inl ⟨rfl,i,rfl,rfl⟩)),λu H'' e2 hu=>k1 hno u H'' (e.trans e2) hu⟩⟩⟩
     symm
     exact k2 m q hm hi ul' H' hul' kp fz hK'
   . symm
     refine Fh (λhc=>absurd hc (by decide +kernel)) (λ_=>?_)
     symm
     refine Fh (λhc=>absurd hc (by decide +kernel)) (λ_=>?_)
     symm
     refine Jm h1 (by rfl) ?_
     symm
     refine⟨p,pl,ul,ns,S,pa,un,rfl,hK,hpa,hun,λhp a H' e hE=>⟨a,rfl,by rw[hG];exact⟨C_NoMore,_,_,x_NoMore.xc,x_NoMore.mr,hE,.inr (.inr (.inr (.inr ⟨rfl,rfl,rfl⟩))),λu H'' e2 hu=>k1 hp u H'' (e.trans e2) hu⟩⟩,λS0 pa' hpp H' kp fz hK'=>?_⟩
     symm
     exact k2 S0 pa' hpp H' kp fz hK'
   . symm
     refine Fh (λhc=>absurd hc (by decide +kernel)) (λ_=>?_)
     symm
     refine Fh (λhc=>absurd hc (by decide +kernel)) (λ_=>?_)
     symm
     refine Fh (λhc=>absurd hc (by decide +kernel)) (λ_=>?_)
     symm
     refine Jm h1 (by rfl) ?_
     symm
     refine⟨p,pl,ul,ns,S,pa,un,rfl,hK,hpa,hun,λhp a H' e hE=>⟨a,rfl,by rw[hG];exact⟨C_NoMore,_,_,x_NoMore.xc,x_NoMore.mr,hE,.inr (.inr (.inr (.inr ⟨rfl,rfl,rfl⟩))),λu H'' e2 hu=>k1 hp u H'' (e.trans e2) hu⟩⟩,λS0 pa' hpp H' kp fz hK'=>?_⟩
     symm
     exact k2 S0 pa' hpp H' kp fz hK'
   . symm
     refine Fh (λhc=>absurd hc (by decide +kernel)) (λ_=>?_)
     symm
     refine Fh (λhc=>absurd hc (by decide +kernel)) (λ_=>?_)
     symm
     refine Fh (λhc=>absurd hc (by decide +kernel)) (λ_=>?_)
     symm
     refine Fh (λhc=>absurd hc (by decide +kernel)) (λ_=>?_)
     symm
     refine Jm h1 (by rfl) ?_
     symm
     refine⟨p,ns,S.1,S.2,i,rfl,hK.at,hnd,λe he hi u hu=>?_,λhno a H' e hE=>⟨a,rfl,by rw[hG];exact⟨C_NoSaying,_,_,x_NoSaying.xc,x_NoSaying.mr,hE,.inr (.inr (.inl ⟨rfl,i,rfl,rfl⟩)),λu H'' e2 hu=>k2 hno u H'' (e.trans e2) hu⟩⟩⟩
     symm
     exact k1 e he hi u hu
   . symm
     refine Fh (λhc=>absurd hc (by decide +kernel)) (λ_=>?_)
     symm
     refine Fh (λhc=>absurd hc (by decide +kernel)) (λ_=>?_)
     symm
     refine Fh (λhc=>absurd hc (by decide +kernel)) (λ_=>?_)
     symm
     refine Fh (λhc=>absurd hc (by decide +kernel)) (λ_=>?_)
     symm
     refine Fh (λhc=>absurd hc (by decide +kernel)) (λ_=>?_)
     symm
     refine R0 ?_
     symm
     refine Jm h1 (by rfl) ?_
     symm
     refine⟨p,ns,S.1,S.2,x,y,rfl,hK.at,λz hz a H' e hE=>⟨a,rfl,by rw[hG];exact⟨C_NoName,_,_,x_NoName.xc,x_NoName.mr,hE,.inl ⟨rfl,z,rfl,rfl⟩,λu H'' e2 hu=>k1 z u H'' hz (e.trans e2) hu⟩⟩,λhx hy u H' e hL=>?_⟩
     symm
     exact k2 hx hy u H' e hL
   symm
   refine Fh (λhc=>absurd hc (by decide +kernel)) (λ_=>?_)
   symm
   refine Fh (λhc=>absurd hc (by decide +kernel)) (λ_=>?_)
   symm
   refine Fh (λhc=>absurd hc (by decide +kernel)) (λ_=>?_)
   symm
   refine Fh (λhc=>absurd hc (by decide +kernel)) (λ_=>?_)
   symm
   refine Fh (λhc=>absurd hc (by decide +kernel)) (λ_=>?_)
   symm
   refine R0 ?_
   symm
   refine Fh (λhc=>absurd hc (by decide +kernel)) (λ_=>?_)
   symm
   refine Jm h1 (by rfl) ?_
   symm
   refine⟨p,ns,S.1,S.2,x,y,rfl,hK.at,λz hz a H' e hE=>⟨a,rfl,by rw[hG];exact⟨C_NoName,_,_,x_NoName.xc,x_NoName.mr,hE,.inl ⟨rfl,z,rfl,rfl⟩,λu H'' e2 hu=>k1 z u H'' hz (e.trans e2) hu⟩⟩,λhx hy H' e=>?_⟩
   symm
   exact k2 hx hy H' e
 rw[hG] at hg
 obtain⟨C,fs,D,xc,xm,hE,hR,kk⟩:=hg
 obtain⟨y0,y1,y2,y3,y4,y5,rfl⟩:∃ y0 y1 y2 y3 y4 y5,σ'=[y0,y1,y2,y3,y4,y5]:=by
  match σ',hl with
  | [y0,y1,y2,y3,y4,y5],_=>exact⟨y0,y1,y2,y3,y4,y5,rfl⟩
 obtain⟨od,ha⟩:∃ od,H' a=some (exG false a C od):=by
  rcases hE with ⟨_,q⟩ | ⟨dx',_,q,_⟩
  . exact⟨_,q⟩
  exact⟨_,q⟩
 refine⟨⟨C,od,ha,xc,aC1 xm⟩,?_⟩
 symm
 refine⟨a,C,fs,D,rfl,hE,hR,λu H2 e2 hu2=>?_⟩
 symm
 exact kk u H2 e2 hu2
theorem Oy {f:Addr}{fd:FuncData}(F:Fun K "many" "Keeper.many" Ef f fd)(T:Fp mg){C_Keeper:Addr}(k_Keeper:Aq K C_Keeper)(Xt:Fnd P w K mg base 14 "count" ["half"] (Qv K))(Ah:Mtd P w K mg base 1 C_Keeper "half" ["self"] (B8 C_Keeper K)):FnOk P w K mg base CX0 15 f fd ["self"] (Jp C_Keeper K):=FnOk.void λvs H Q E h=>h
theorem Pn {f:Addr}{fd:FuncData}(F:Fun K "best" "Keeper.best" Dz f fd)(T:Fp mg){C_Keeper:Addr}(k_Keeper:Aq K C_Keeper)(Y5:Fnd P w K mg base 1 "_wall" ["k"] (Rc K)):FnOk P w K mg base CX0 2 f fd ["self"] (Jq C_Keeper K):=FnOk.void λvs H Q E h=>h
structure KeD (K:PySem.W.Frag)(H:Hp)(kvs:List (Key×V))(es:List (Nat×(Str×Str))):Prop where
 ks:∃ is:List Int,kvs.map (·.1)=is.map Sum.inl/\is.Perm (es.map λe=>((e.1:Nat):Int))
 vs:∀ e∈es,∃ v,Dj kvs (Sum.inl ((e.1:Nat):Int):Key)=some v/\Is K H (prD e.2) v
theorem KeD.fz {K:PySem.W.Frag}{H H':Hp}{kvs:List (Key×V)}{es:List (Nat×(Str×Str))}(h:KeD K H kvs es)(f:Fz H H'):KeD K H' kvs es:=
 ⟨h.ks,λe he=>by obtain⟨v,h1,h2⟩:=h.vs e he;exact⟨v,h1,Is.fz f _ _ (Jo _) h2⟩⟩
theorem KeD.len {K:PySem.W.Frag}{H:Hp}{kvs:List (Key×V)}{es:List (Nat×(Str×Str))}(h:KeD K H kvs es):kvs.length=es.length:=by
 obtain⟨is,h1,h2⟩:=h.ks
 have e1:=congrArg List.length h1
 have e2:=h2.length_eq
 rw[A00,A00] at e1
 rw[A00] at e2
 omega
theorem KeD.no {K:PySem.W.Frag}{H:Hp}{kvs:List (Key×V)}{es:List (Nat×(Str×Str))}(h:KeD K H kvs es){i:Int}(hi:∀ e∈es,((e.1:Nat):Int)≠i):Dj kvs (Sum.inl i:Key)=none:=by
 cases e:Dj kvs (Sum.inl i:Key) with
 | none=>rfl
 | some v=>
   have hm:=ap5 e
   obtain⟨is,h1,h2⟩:=h.ks
   rw[h1] at hm
   obtain⟨j,hj,ej⟩:=A0I.mp hm
   cases ej
   obtain⟨e',he',ee⟩:=A0I.mp (h2.mem_iff.mp hj)
   exact absurd ee (hi e' he')
theorem KeD.put {K:PySem.W.Frag}{H:Hp}{kvs:List (Key×V)}{es es':List (Nat×(Str×Str))}(h:KeD K H kvs es){n:Nat}{q:Str×Str}{v:V}(hn:∀ e∈es,e.1≠n)(hv:Is K H (prD q) v)(hp:es'.Perm (es++[(n,q)])):KeD K H (Hl kvs (Sum.inl ((n:Nat):Int):Key) v) es':=by
 have hno:=h.no (i:=((n:Nat):Int)) λe he z=>by have:=hn e he;omega
 refine⟨?_,λe he=>?_⟩
 . obtain⟨is,h1,h2⟩:=h.ks
   refine⟨is++[((n:Nat):Int)],?_,?_⟩
   . rw[Kh _ hno,A0G,h1,A0G]
     rfl
   refine List.Perm.trans ?_ (hp.map _).symm
   rw[A0G]
   exact h2.append_right _
 rcases A0B.mp (hp.mem_iff.mp he) with he | he
 . obtain⟨u,g1,g2⟩:=h.vs e he
   refine⟨u,?_,g2⟩
   rw[Mc,A0Y (λz=>by have:=hn e he;injection z with z;omega)]
   exact g1
 rw [A15.mp he]
 exact⟨v,by rw[Mc,A11 rfl],hv⟩
theorem Ve {k j:Key}(h:j≠k):∀ kvs:List (Key×V),Dj (Ei kvs k) j=Dj kvs j
 | []=>rfl
 | p :: r=>by
   have ih:=Ve h r
   by_cases e:p.1=k
   . rw[a53 e,ih,B9 (λz=>h (z.symm.trans e))]
   rw[show Ei (p :: r) k=p :: Ei r k by unfold Ei;rw[List.filter_cons_of_pos (by simpa using e)]]
   by_cases e2:p.1=j
   . rw[Bj e2,Bj e2]
   rw[B9 e2,B9 e2,ih]
theorem KeD.out {K:PySem.W.Frag}{H:Hp}{kvs:List (Key×V)}{es:List (Nat×(Str×Str))}(h:KeD K H kvs es)(m:Nat):KeD K H (Ei kvs (Sum.inl ((m:Nat):Int):Key)) (Rr m es):=by
 refine⟨?_,λe he=>?_⟩
 . obtain⟨is,h1,h2⟩:=h.ks
   refine⟨is.filter λi=>!decide (i=((m:Nat):Int)),?_,?_⟩
   . have:(Ei kvs (Sum.inl ((m:Nat):Int):Key)).map (·.1)=(kvs.map (·.1)).filter λk=>decide (k≠Sum.inl ((m:Nat):Int)):=by
      unfold Ei
      rw[List.filter_map]
      rfl
     rw[this,h1,List.filter_map]
     congr 1
     refine A2R λi _=>?_
     by_cases q:i=((m:Nat):Int)
     . simp[q]
     have:(Sum.inl i:Key)≠Sum.inl ((m:Nat):Int):=λz=>q (by injection z)
     simp[q]
   refine(h2.filter _).trans ?_
   unfold Rr
   rw[List.filter_map]
   refine List.Perm.of_eq ?_
   congr 1
   refine A2R λe _=>?_
   simp only[Function.comp]
   by_cases q:e.1=m
   . simp[q]
   have:¬ ((e.1:Nat):Int)=((m:Nat):Int):=by omega
   rw[A0Q this,A0Q q]
 obtain⟨h1,h2⟩:=A21.mp he
 obtain⟨v,g1,g2⟩:=h.vs e h1
 refine⟨v,?_,g2⟩
 rw[Ve]
 . exact g1
 intro z
 injection z with z
 have:e.1=m:=by omega
 simp[this] at h2
theorem W8:∀ {es:List (Nat×(Str×Str))} {m:Nat} {q:Str×Str},(es.map (·.1)).Pairwise (· < ·)->(m,q)∈es->es.Perm (Rr m es++[(m,q)])
 | [],_,_,_,h=>by cases h
 | e :: es,m,q,hs,h=>by
   rw[A0X,List.pairwise_cons] at hs
   rcases A0K.mp h with rfl | h
   . have:Rr m ((m,q) :: es)=es:=by
      unfold Rr
      rw[List.filter_cons_of_neg nofun]
      refine List.filter_eq_self.mpr λe he=>?_
      have:=hs.1 e.1 (A0I.mpr ⟨e,he,rfl⟩)
      simp
      omega
     rw[this]
     exact(List.perm_append_singleton _ _).symm
   have hne:e.1≠m:=by
    have:=hs.1 m (A0I.mpr ⟨(m,q),h,rfl⟩)
    omega
   rw[show Rr m (e :: es)=e :: Rr m es by unfold Rr;rw[List.filter_cons_of_pos (by simpa using hne)]]
   exact(W8 hs.2 h).cons _
def sdK (nv:V)(p kd:Addr)(n:Nat)(dl:Addr)(ul:V):List (Key×V):=[(Sum.inr "names",nv),(Sum.inr "keeper",.ref p),(Sum.inr "kept",.ref kd),(Sum.inr "next",.int ((n:Nat):Int)),(Sum.inr "done",.ref dl),(Sum.inr "undone",ul)]
abbrev DD:=Bool×Nat×(Str×Str)
def a69 (D:DD):PyData:=.tuple [.bool D.1,.int ((D.2.1:Nat):Int),prD D.2.2]
theorem Jy (D:DD):frz (a69 D)=true:=by simp[a69,frz,Oh,Jo]
theorem Gg (ds:List DD):Oh (ds.map a69)=true:=Gh a69 Jy ds
inductive Step:SS->DD->SS->Prop
 | say (es:List (Nat×(Str×Str))) (n:Nat) (q:Str×Str):Step (es,n) (true,n,q) (es++[(n,q)],n+1)
 | take (es:List (Nat×(Str×Str))) (n m:Nat) (q:Str×Str):(m,q)∈es->Step (es,n) (false,m,q) (Rr m es,n)
inductive Hist:SS->List DD->List SS->Prop
 | nil:Hist ([],0) [] []
 | snoc {S0 S:SS} {ds:List DD} {ss:List SS} {D:DD}:Hist S0 ds ss->Step S0 D S->Hist S (ds++[D]) (ss++[S0])
inductive Fut:SS->List DD->List SS->Prop
 | nil (S:SS):Fut S [] []
 | snoc {S S1:SS} {ds:List DD} {ss:List SS} {D:DD}:Step S D S1->Fut S1 ds ss->Fut S (ds++[D]) (ss++[S1])
theorem Hist.len {S:SS}{ds:List DD}{ss:List SS}(h:Hist S ds ss):ds.length=ss.length/\S.2<=ds.length:=by
 induction h with
 | nil=>simp
 | snoc h g ih=>
   cases g<;>simp<;>simp at ih<;>omega
theorem Fut.len {S:SS}{ds:List DD}{ss:List SS}(h:Fut S ds ss):ds.length=ss.length:=by
 induction h with
 | nil=>rfl
 | snoc g h ih=>simp[ih]
structure SdO (K:PySem.W.Frag)(H:Hp)(d p kd dl vl:Addr)(ns:List Str)(S:SS)(ds us:List DD):Prop where
 ex:∃ nv kvs ys zs,H d=some (.dK (sdK nv p kd S.2 dl (.ref vl)))/\Is K H (nmD ns) nv/\H kd=some (.dK kvs)/\KeD K H kvs S.1/\H dl=some (.lst ys)/\IsL K H (ds.map a69) ys/\H vl=some (.lst zs)/\IsL K H (us.map a69) zs
 vs:Vs ns S.1 S.2
 ne:d≠kd
 nv:dl≠vl
theorem SdO.of {K:PySem.W.Frag}{H H':Hp}{d p kd dl vl:Addr}{ns:List Str}{S:SS}{ds us:List DD}(h:SdO K H d p kd dl vl ns S ds us)(f:Fz H H')(q1:∀ o,H d=some o->H' d=some o)(q2:∀ o,H kd=some o->H' kd=some o)(q3:∀ o,H dl=some o->H' dl=some o)(q4:∀ o,H vl=some o->H' vl=some o):SdO K H' d p kd dl vl ns S ds us:=by
 obtain⟨nv,kvs,ys,zs,h1,h2,h3,h4,h5,h6,h7,h8⟩:=h.ex
 exact⟨⟨nv,kvs,ys,zs,q1 _ h1,h2.nm_fz f,q2 _ h3,h4.fz f,q3 _ h5,IsL.fz f _ _ (Gg _) h6,q4 _ h7,IsL.fz f _ _ (Gg _) h8⟩,h.vs,h.ne,h.nv⟩
theorem SdO.same {K:PySem.W.Frag}{H H':Hp}{d p kd dl vl:Addr}{ns:List Str}{S:SS}{ds us:List DD}(h:SdO K H d p kd dl vl ns S ds us)(e:Same H H'):SdO K H' d p kd dl vl ns S ds us:=h.of e.fz (e d) (e kd) (e dl) (e vl)
structure SdH (K:PySem.W.Frag)(C:Addr)(H:Hp)(d p pl ul kd dl vl:Addr)(ns:List Str)(S:SS)(ds us:List DD)(pa un:List SS):Prop where
 o:SdO K H d p kd dl vl ns S ds us
 kp:KpH K C H p pl ul ns S pa un
 hi:Hist S ds pa
 fu:Fut S us un
 n1:dl≠pl
 n2:dl≠ul
 n3:vl≠pl
 n4:vl≠ul
def Sd (K:PySem.W.Frag)(C:Addr)(H:Hp)(A:List Addr)(d p:Addr)(ns:List Str)(c:Nat):Prop:=∃ pl ul kd dl vl S ds us pa un,A=[p,pl,ul,d,kd,dl,vl]/\SdH K C H d p pl ul kd dl vl ns S ds us pa un/\ds.length+us.length<=c
def Ow (A A':List Addr)(H:Hp):Prop:=∀ b∈A',b∈A\/H b=none
def Zm (A:List Addr)(H H':Hp):Prop:=∀ b o,b∉A->H b=some o->H' b=some o
def Aft (K:PySem.W.Frag)(C:Addr)(H:Hp)(A:List Addr)(d p:Addr)(ns:List Str)(c:Nat)(Q:VK):Prop:=∀ A' H',Ow A A' H->Zm A H H'->Fz H H'->Sd K C H' A' d p ns c->Q (.bl true) H'
theorem SdH.of {K:PySem.W.Frag}{C:Addr}{H H':Hp}{d p pl ul kd dl vl:Addr}{ns:List Str}{S:SS}{ds us:List DD}{pa un:List SS}(h:SdH K C H d p pl ul kd dl vl ns S ds us pa un)(f:Fz H H')(q:∀ b∈[p,pl,ul,d,kd,dl,vl],∀ o,H b=some o->H' b=some o):SdH K C H' d p pl ul kd dl vl ns S ds us pa un:=
 ⟨h.o.of f (q d nofun) (q kd nofun) (q dl nofun) (q vl nofun),h.kp.of f (q p nofun) (q pl nofun) (q ul nofun),h.hi,h.fu,h.n1,h.n2,h.n3,h.n4⟩
theorem Sd.of {K:PySem.W.Frag}{C:Addr}{H H':Hp}{A:List Addr}{d p:Addr}{ns:List Str}{c:Nat}(h:Sd K C H A d p ns c)(f:Fz H H')(q:∀ b∈A,∀ o,H b=some o->H' b=some o):Sd K C H' A d p ns c:=by
 obtain⟨pl,ul,kd,dl,vl,S,ds,us,pa,un,rfl,hS,hc⟩:=h
 exact⟨pl,ul,kd,dl,vl,S,ds,us,pa,un,rfl,hS.of f q,hc⟩
theorem Sd.same {K:PySem.W.Frag}{C:Addr}{H H':Hp}{A:List Addr}{d p:Addr}{ns:List Str}{c:Nat}(h:Sd K C H A d p ns c)(e:Same H H'):Sd K C H' A d p ns c:=h.of e.fz λb _=>e b
theorem Sd.le {K:PySem.W.Frag}{C:Addr}{H:Hp}{A:List Addr}{d p:Addr}{ns:List Str}{c c':Nat}(h:Sd K C H A d p ns c)(hc:c<=c'):Sd K C H A d p ns c':=by
 obtain⟨pl,ul,kd,dl,vl,S,ds,us,pa,un,e,hS,h1⟩:=h
 exact⟨pl,ul,kd,dl,vl,S,ds,us,pa,un,e,hS,A0L h1 hc⟩
theorem Sd.there {K:PySem.W.Frag}{C:Addr}{H:Hp}{A:List Addr}{d p:Addr}{ns:List Str}{c:Nat}(h:Sd K C H A d p ns c):∀ b∈A,H b≠none:=by
 obtain⟨pl,ul,kd,dl,vl,S,ds,us,pa,un,rfl,hS,hc⟩:=h
 obtain⟨nv,kvs,ys,zs,h1,h2,h3,h4,h5,h6,h7,h8⟩:=hS.o.ex
 obtain⟨dx,nv',w,pvs,uvs,g1,g2,g3,g4,g5,g6,g7⟩:=hS.kp.ex
 intro b hb
 simp only[List.mem_cons,List.not_mem_nil,or_false] at hb
 rcases hb with rfl | rfl | rfl | rfl | rfl | rfl | rfl
 . rw[g1];simp
 . rw[g4];simp
 . rw[g6];simp
 . rw[h1];simp
 . rw[h3];simp
 . rw[h5];simp
 rw[h7];simp
theorem Aft.same {K:PySem.W.Frag}{C:Addr}{H H':Hp}{A:List Addr}{d p:Addr}{ns:List Str}{c c':Nat}{Q:VK}(h:Aft K C H A d p ns c Q)(hS:Sd K C H A d p ns c')(hc:c'<=c)(e:Same H H'):Q (.bl true) H':=h A H' (λb hb=>.inl hb) (λb o _ q=>e b o q) e.fz ((hS.same e).le hc)
def Iv (K:PySem.W.Frag):Sp:=λvs H Q _=>∃ v w,vs=[v,w]/\∀ d kd dl ul H',H d=none->H kd=none->H dl=none->d≠kd->H ul=none->dl≠ul->Same H H'->H' d=some (.dK [(Sum.inr "names",v),(Sum.inr "keeper",w),(Sum.inr "kept",.ref kd),(Sum.inr "next",.int 0),(Sum.inr "done",.ref dl),(Sum.inr "undone",.ref ul)])->H' kd=some (.dK [])->H' dl=some (.lst [])->H' ul=some (.lst [])->Q (.ref d) H'
theorem Tr {f:Addr}{fd:FuncData}(F:Fun K "_law_side" "_law_side" Er f fd)(T:Fp mg):FnOk P w K mg base CX0 1 f fd ["_law_names_here","_law_keeper"] (Iv K):=by
 refine F.ok Tu (λvs H Q E h=>?_) (λcdv A outer s H vs Q E hr h=>?_)
 . obtain⟨v,w,rfl,_⟩:=h
   rfl
 obtain⟨v,w,rfl,k⟩:=h
 have hu:=Cc hr
 have hq:=Cd hr
 with_reducible refine⟨_,(A7 (Ap (Re (Dm Ab (pv 0) (Dm Ab (pv 1) (Dm Ab Lz (Dm Ab A9 (Dm Ab (Bz A4) (Dm Ab (Bz A4) R7)))))) ⋯ ⋯ ∅ ∅))),?_⟩
 symm
 refine Vy λd H1 hd e1 hd1=>?_
 symm
 refine Vk λkd H2 hk e2 hk2=>?_
 symm
 refine B7 (Aa nofun) λdl H3 hl e3 hl3=>?_
 symm
 refine B7 (Aa nofun) λul H4 hul e4 hul4=>?_
 symm
 have hd4:=e4 _ _ (e3 _ _ (e2 _ _ hd1))
 have hkd:kd≠d:=(ne_of_none hd1 hk).symm
 refine Rn [(Sum.inr "names",v),(Sum.inr "keeper",w),(Sum.inr "kept",.ref kd),(Sum.inr "next",.int 0),(Sum.inr "done",.ref dl),(Sum.inr "undone",.ref ul)] hd4 (by rfl) (by show 6<=15;decide) λH5 e5 h5=>?_
 refine k d kd dl ul H5 hd (e1.free hk) (e1.free (e2.free hl)) hkd.symm (e1.free (e2.free (e3.free hul))) (ne_of_none hl3 hul) (λb o hb=>e5 b o (ne_of_none hb hd) (e4 _ _ (e3 _ _ (e2 _ _ (e1 _ _ hb))))) h5 (e5 _ _ hkd (e4 _ _ (e3 _ _ hk2))) (e5 _ _ (ne_of_none (e2 _ _ hd1) hl).symm (e4 _ _ hl3)) (e5 _ _ (ne_of_none (e3 _ _ (e2 _ _ hd1)) hul).symm hul4)
theorem SdO.is {K:PySem.W.Frag}{H:Hp}{d p kd dl vl:Addr}{ns:List Str}{S:SS}{ds us:List DD}(h:SdO K H d p kd dl vl ns S ds us){kvs:List (Key×V)}(hk:KeD K H kvs S.1) :
  ∃ is:List Int,kvs.map (·.1)=is.map Sum.inl/\is.length<64/\∀ ms:List Int,ms.Perm is->ms.Pairwise (· <= ·)->ms=S.1.map λe=>((e.1:Nat):Int):=by
 obtain⟨is,h1,h2⟩:=hk.ks
 have hl:=h2.length_eq
 rw[A00] at hl
 have:=h.vs.le
 refine⟨is,h1,by omega,λms p1 p2=>Ol (p1.trans h2) p2 ?_⟩
 have:=h.vs.so
 rw[List.pairwise_map] at this ⊢
 exact this.imp λq=>by omega
def Eg (K:PySem.W.Frag):Sp:=λvs H Q _=>∃ d p kd dl vl ns S ds us,vs=[.ref d]/\SdO K H d p kd dl vl ns S ds us/\∀ u H',Same H H'->Is K H' (hfD ns (S.1.map (·.2))) u->Q u H'
theorem Nc {f:Addr}{fd:FuncData}(F:Fun K "_law_half_of" "_law_half_of" Ch f fd)(T:Fp mg):FnOk P w K mg base CX0 1 f fd ["_law_side_here"] (Eg K):=by
 refine F.ok Nm (λvs H Q E h=>?_) (λcdv A outer s H vs Q E hr h=>?_)
 . obtain⟨d,p,kd,dl,vl,ns,S,ds,us,rfl,_⟩:=h
   rfl
 obtain⟨d,p,kd,dl,vl,ns,S,ds,us,rfl,hS,k⟩:=h
 have hu:=Cc hr
 have hq:=Cd hr
 obtain⟨nv,kvs,ys,zs,h1,h2,h3,h4,h5,h6,h7,h8⟩:=hS.ex
 have hle:=hS.vs.le
 obtain⟨is,g1,g2,g3⟩:=hS.is h4
 with_reducible refine⟨_,(A7 (Ap (B6 (A3 (Af (A8 (K:=K) hu) (pv 0) Ab (by ac_rfl)) (A3 (Ay (Bq (K:=K)) ⋯ T.b_tuple PyProof.Rows.Boot.«tuple» (A3 (Eu ["_law_number"] ["_law_side_here"] [0] ⋯ ⋯ ⋯ (Bs (K:=K) hu (Ag (Nr ⋯) ⋯ T.b_sorted PyProof.Rows.Boot.«sorted» (A3 (Af (A8 (K:=K) hu) (pv 0) Ab (by ac_rfl)) A4))) (λ_ _ _ _=>(B4 (i:=0) (by with_unfolding_all (show(["_law_number","_law_side_here"]:List Str).Nodup;decide +kernel)) ⋯ (by eq_refl))) (Ed ∅) (λ_ _ _ _=>G2) (λ_ _ _ _=>(Af (A8 (K:=K) hu) (Af (A8 (K:=K) hu) (pv 1) Ab (by ac_rfl)) (pv 0) (by ac_rfl)))) A4)) A4))))),?_⟩
 symm
 refine Wg h3 g1 g2 λl ms H1 hl1 e1 hl1' p1 p2=>?_
 have:=g3 ms p1 p2
 subst this
 symm
 refine aj7 (SqL.of hl1') (Gj (K:=K) (Mi (xs:=(S.1.map λe=>((e.1:Nat):Int)).map V.int)) S.1 nofun (λ_=>true) (λe=>prD e.2) (λ_=>Jo _) (by simp;omega) (λH' e=>e.seq (SqL.of hl1')) (λi e v H2 R R' he hv e2 hR hR'=>?_) (λq us H2 hq2 e2 hq hL2=>?_))
 . obtain⟨u,g4,g5⟩:=h4.vs e (A04 he)
   rw[A1K,A0A,he] at hv
   cases hv
   have e02:=e1.trans e2
   symm
   refine T1 (e02 _ _ h3) g4 ?_
   exact hR rfl _ _ (.refl _) (Is.mono e02 _ _ g5)
 rw[Ex] at hL2
 symm
 refine a55 (ps:=S.1.map (·.2)) hq (by rw[A1K];exact hL2) λu2 H3 e3 hu2=>?_
 symm
 refine Az (Aa nofun) λt3 H4 ht3 e4 h3'=>?_
 exact k _ H4 (((e1.trans e2).trans e3).trans e4) (au3 (SqT.of h3') (h2.nm_fz (((e1.trans e2).trans e3).trans e4).fz) (Is.mono e4 _ _ hu2))
def Gs (K:PySem.W.Frag):Sp:=λvs H Q _=>∃ d p kd dl vl ns S ds us u x y js os,vs=[.ref d,u,.str x,.str y]/\SdO K H d p kd dl vl ns S ds us/\Is K H (aB5 S.1 js) u/\js≠[]/\js.length<=1000/\Trl (S.1.map (·.2)) x js y os/\∀ H',Same H H'->Q (.bl true) H'
theorem Zj (js:List Nat):SeqAt.shaped (jsD js)=true:=by
 have e1:(jsD js).canLay0=true:=by
  unfold jsD
  simp only[PyData.canLay0]
  induction js with
  | nil=>rfl
  | cons j js ih=>simp only[List.map_cons,PyData.canLayAll0,PyData.canLay0,ih,Bool.and_self]
 have e2:(jsD js).depth<=64:=by
  unfold jsD
  simp only[PyData.depth]
  have:=Ir (λ(j:Nat)=>PyData.int (j:Int)) 0 js λ_ _=>by simp only[PyData.depth];omega
  omega
 unfold SeqAt.shaped
 rw[e1,A0S e2]
 rfl
theorem X6 (js:List Nat):PyData.eqv (jsD js) (.tuple [])=js.isEmpty:=by
 cases js<;>simp[jsD,PyData.eqv,PyData.eqvAll]
theorem Oq {f:Addr}{fd:FuncData}(F:Fun K "_law_is_way" "_law_is_way" Cv f fd)(T:Fp mg):FnOk P w K mg base CX0 1 f fd ["_law_side_here","_law_way","_law_name","_law_other"] (Gs K):=by
 refine F.ok Ey (λvs H Q E h=>?_) (λcdv A outer s H vs Q E hr h=>?_)
 . obtain⟨d,p,kd,dl,vl,ns,S,ds,us,u,x,y,js,os,rfl,_⟩:=h
   rfl
 obtain⟨d,p,kd,dl,vl,ns,S,ds,us,u,x,y,js,os,rfl,hS,hI,hne,hjl,hT,k⟩:=h
 have hu:=Cc hr
 have hq:=Cd hr
 obtain⟨nv,kvs,ys,zs,h1,h2,h3,h4,h5,h6,h7,h8⟩:=hS.ex
 obtain⟨ja,jx,rfl,hjS,hjL⟩:=Is.tup hI
 with_reducible refine⟨_,(A5 (Bc (PW.pt (Rx (Ig (Dr (Ag (Dw (K:=K)) ⋯ T.b_isinstance PyProof.Rows.Boot.«isinstance» (A3 (pv 1) (A3 (Ho (v:=.ty "tuple") ⋯ T.b_tuple PyProof.Rows.Boot.«tuple» ⋯) A4))))) (Od (Ai (B5 (K:=K) hq) (pv 1) (B6 A4) (An _))))) (A7 (Ap Ij)) Am)
  (A5 (Al (i:=4) Ey.nd ⋯ (by eq_refl) (pv 2))
  (A5 (Hi A1C ⋯ (Bs (K:=K) hu (pv 1)) (B4 (i:=5) Ey.nd ⋯ (by eq_refl))
  (A5 (Bc (PW.pt (Rx (Ig (Dr (Ag (Dw (K:=K)) ⋯ T.b_isinstance PyProof.Rows.Boot.«isinstance» (A3 (pv 5) (A3 (Ho (v:=.ty "int") ⋯ T.b_int PyProof.Rows.Boot.«int» ⋯) A4))))) (Rx (Dr (Ag (Dw (K:=K)) ⋯ T.b_isinstance PyProof.Rows.Boot.«isinstance» (A3 (pv 5) (A3 (Ho (v:=.ty "bool") ⋯ T.b_bool PyProof.Rows.Boot.«bool» ⋯) A4)))) (Od (Ai (Ga (K:=K) hq) (pv 5) (Af (A8 (K:=K) hu) (pv 0) Ab (by ac_rfl)) ⋯))))) (A7 (Ap Ij)) Am)
  (A5 (Bc (Ai (Lk (K:=K) hq) (Af (A8 (K:=K) hu) (Af (A8 (K:=K) hu) (Af (A8 (K:=K) hu) (pv 0) Ab (by ac_rfl)) (pv 5) (by ac_rfl)) A9 (by ac_rfl)) (pv 4) (An _)) (A7 (Ap Ij)) Am)
  (A7 (Al (i:=4) Ey.nd ⋯ (by eq_refl) (Af (A8 (K:=K) hu) (Af (A8 (K:=K) hu) (Af (A8 (K:=K) hu) (pv 0) Ab (by ac_rfl)) (pv 5) (by ac_rfl)) A9 (by ac_rfl)))))))
  (A7 (Ap (C3 (B5 (K:=K) hq) (pv 4) (pv 3) (An _))))))),?_⟩
 symm
 refine Z8 hjS (b:=true) (by first | rfl | kernel_rfl) ?_
 symm
 refine Az (Aa nofun) λt1 H1 ht1 e1 h1'=>?_
 refine R6 (Is.mono e1 _ _ hI) (Is.of_tup (SqT.of h1') .nil) (Zj _) (by rfl) ?_
 unfold aB5
 rw[X6,show(js.map λj=>(S.1.getD j (0,("",""))).1).isEmpty=false by cases js with | nil=>exact absurd rfl hne | cons _ _=>rfl]
 symm
 have hjS1:=e1.seqT hjS
 refine Pc hjS1 ?_
 refine Sv (Fb (xs:=jx)) (λi σ H2=>∃ a x5,σ=[some (.ref d),some (.ref ja),some (.str x),some (.str y),some (.str a),x5]/\H2=H1/\(os++[y])[i]? = some a) ⟨x,_,rfl,rfl,hT.hd⟩ (λj σ' H' hP=>?_) (λi v σ' H2 hv hi hP=>?_) (fun σ' H2 hP=>?_)
 . obtain⟨_,_,_,rfl,_⟩:=hP
   exact hjS1
 . obtain⟨a,x5,rfl,rfl,ha⟩:=hP
   obtain⟨D,hD,hDv⟩:=IsL.get hjL hv
   rw[A0A,A0A] at hD
   obtain⟨m,hm,rfl⟩:=A1L.mp hD
   obtain⟨j,hj,rfl⟩:=A1L.mp hm
   obtain⟨a',b,ha',hb,hps⟩:=hT.ed i j hj
   rw[ha] at ha'
   cases ha'
   rw[A0A] at hps
   obtain⟨e,he,hee⟩:=A1L.mp hps
   rw[A3M,he] at hDv
   have:=Nu hDv
   subst this
   have hem:=A04 he
   obtain⟨pv,g1,g2⟩:=h4.vs e hem
   have g2':=Is.mono e1 _ _ g2
   rw[hee] at g2'
   have h31:=e1 _ _ h3
   symm
   refine a96 (b:=true) (.int _) (by rfl) ?_
   symm
   refine a96 (b:=false) (.int _) (by rfl) ?_
   symm
   refine Qs h31 ?_
   rw[show((some e).getD (0,("","")))=e from rfl,g1,Option.isNone_some]
   symm
   refine T1 h31 g1 ?_
   symm
   refine Zb g2' ?_
   symm
   refine T1 h31 g1 ?_
   symm
   refine Ss g2' ?_
   symm
   exact⟨_,_,rfl,rfl,hb⟩
 obtain⟨a,x5,rfl,rfl,ha⟩:=hP
 have hjx:jx.length=js.length:=by rw[<- IsL.length hjL,A00,A00]
 have:a=y:=by
  rw[hjx,<- hT.len] at ha
  simpa using ha.symm
 subst this
 symm
 rw[A0S rfl]
 exact k _ e1
theorem KpAt.okP {K:PySem.W.Frag}{C:Addr}{H:Hp}{p:Addr}{ns:List Str}{es:List (Nat×(Str×Str))}{n:Nat}(h:KpAt K C H p ns es n):OkP (es.map (·.2)):=λq hq=>by
 obtain⟨e,he,rfl⟩:=A0I.mp hq
 have:=h.mem e he
 exact ⟨(Sa (h.nd.2 _ this.1)).1,(Sa (h.nd.2 _ this.2)).1⟩
theorem ab1 {ps:List (Str×Str)}{x:Str}{js:List Nat}{os:List Str}(h:Trl ps x js x os):js=[]:=by
 cases os with
 | nil=>exact A1I.mp h.len.symm
 | cons a os=>
   have h1:=h.hd
   have h2:=h.nd
   cases h1
   simp at h2
theorem ao9 {K:PySem.W.Frag}{H:Hp}{z:Str}{v:V}(h:Is K H (.str z) v):v = .str z:=by simpa only[Is] using h
theorem SdH.kept {K:PySem.W.Frag}{C:Addr}{H H':Hp}{d p pl ul kd dl vl:Addr}{ns:List Str}{S:SS}{ds us:List DD}{pa un:List SS}(h:SdH K C H d p pl ul kd dl vl ns S ds us pa un)(k:Ur p pl H H')(f:Fz H H'):SdO K H' d p kd dl vl ns S ds us:=by
 obtain⟨nv,kvs,ys,zs,h1,h2,h3,h4,h5,h6,h7,h8⟩:=h.o.ex
 obtain⟨dx,nv',w,pvs,uvs,g1,g2,g3,g4,g5,g6,g7⟩:=h.kp.ex
 refine h.o.of f (λo q=>k _ _ (λz=>?_) (λz=>?_) q) (λo q=>k _ _ (λz=>?_) (λz=>?_) q) (λo q=>k _ _ (λz=>?_) h.n1 q) (λo q=>k _ _ (λz=>?_) h.n3 q)
 . rw[z,g1] at h1;cases h1
 . rw[z,g4] at h1;cases h1
 . rw[z,g1] at h3;cases h3
 . rw[z,g4] at h3;cases h3
 . rw[z,g1] at h5;cases h5
 rw[z,g1] at h7;cases h7
theorem Jc {a b:Str}(ha:PyData.strOk a=true)(hb:PyData.strOk b=true):SeqAt.shaped (.tuple [.str a,.str b])=true:=by
 simp[SeqAt.shaped,PyData.canLay0,PyData.canLayAll0,PyData.depth,PyData.depthAll,ha,hb]
theorem Yl (a b:Str):PyData.eqv (.tuple [.str a,.str b]) (.tuple [.str a,.str b])=true:=by simp[PyData.eqv,PyData.eqvAll]
theorem T4:SeqAt.shaped (.tuple [.str "clash",.tuple []])=true:=by
 simp only[SeqAt.shaped,PyData.canLay0,PyData.canLayAll0,PyData.depth,PyData.depthAll]
 decide +kernel
theorem Ow.new {p pl ul d kd dl vl ul' vl':Addr}{H:Hp}(h1:H ul'=none)(h2:H vl'=none):Ow [p,pl,ul,d,kd,dl,vl] [p,pl,ul',d,kd,dl,vl'] H:=λb hb=>by
 simp only[List.mem_cons,List.not_mem_nil,or_false] at hb ⊢
 rcases hb with rfl | rfl | rfl | rfl | rfl | rfl | rfl
 . exact .inl (.inl rfl)
 . exact .inl (.inr (.inl rfl))
 . exact .inr h1
 . exact .inl (.inr (.inr (.inr (.inl rfl))))
 . exact .inl (.inr (.inr (.inr (.inr (.inl rfl)))))
 . exact .inl (.inr (.inr (.inr (.inr (.inr (.inl rfl))))))
 exact .inr h2
theorem aa8 {p pl ul d kd dl vl b:Addr}(h:b∉[p,pl,ul,d,kd,dl,vl]):b≠p/\b≠pl/\b≠ul/\b≠d/\b≠kd/\b≠dl/\b≠vl:=by
 simp only[List.mem_cons,List.not_mem_nil,or_false,not_or] at h
 exact h
def Jx (C:Addr)(K:PySem.W.Frag):Sp:=λvs H Q _=>∃ d p A ns c x y,vs=[.ref d,.str x,.str y]/\Sd K C H A d p ns c/\c<800/\PyData.strOk x=true/\PyData.strOk y=true/\Aft K C H A d p ns (c+1) Q
theorem Uo {f:Addr}{fd:FuncData}(F:Fun K "_law_say" "_law_say" Fx f fd)(T:Fp mg){C_Keeper:Addr}(k_Keeper:Aq K C_Keeper)(Hq:Fnd P w K mg base 1 "_law_behind" ["_law_half","_law_name"] (Go K))(Ax:Fnd P w K mg base 5 "_law_told_by" ["_law_keeper","_law_word","_law_one","_law_other"] (C9 C_Keeper K))(Co:Fnd P w K mg base 1 "_law_half_of" ["_law_side_here"] (Eg K))(Hr:Fnd P w K mg base 1 "_law_is_way" ["_law_side_here","_law_way","_law_name","_law_other"] (Gs K)):FnOk P w K mg base CX0 6 f fd ["_law_side_here","_law_name","_law_other"] (Jx C_Keeper K):=by
 refine F.ok Hv (λvs H Q E h=>?_) (λcdv A outer s H vs Q E hr h=>?_)
 . obtain⟨d,p,A,ns,c,x,y,rfl,_⟩:=h
   rfl
 obtain⟨d,p,A,ns,c,x,y,rfl,hSd,hc8,hox,hoy,k⟩:=h
 have k1:∀ H',Same H H'->Q (.bl true) H':=λH' e=>k.same hSd (A20 _) e
 obtain⟨pl,ul,kd,dl,vl,S,ds,us,pa,un,rfl,hS,hc⟩:=hSd
 have hla:=hS.hi.len
 have hlu:=hS.fu.len
 have hle:=hS.o.vs.le
 have hu:=Cc hr
 have hq:=Cd hr
 obtain⟨nv,kvs,ys,zs,h1,h2,h3,h4,h5,h6,h7,h8⟩:=hS.o.ex
 with_reducible refine⟨_,(A5 (Al (i:=3) Hv.nd ⋯ (by eq_refl) (Bo Ax (hr.mono ∅) ⋯ (A3 (Af (A8 (K:=K) hu) (pv 0) Ab (by ac_rfl)) (A3 Ab (A3 (pv 1) (A3 (pv 2) A4))))))
  (A5 (Hi A1C ⋯ (Bs (K:=K) hu (B6 (A3 (pv 1) (A3 (pv 2) A4)))) (B4 (i:=4) Hv.nd ⋯ (by eq_refl))
  (A7 (Bc (Ai (Ga (K:=K) hq) (pv 4) (Af (A8 (K:=K) hu) (pv 0) Ab (by ac_rfl)) ⋯) (A7 (Ap (C3 (B5 (K:=K) hq) (pv 3) (B6 (A3 Ab (A3 (pv 4) A4))) (An _)))) Am)))
  (A5 (Bc (Ai (B5 (K:=K) hq) (pv 1) (pv 2) (An _)) (A7 (Ap (C3 (B5 (K:=K) hq) (pv 3) (B6 (A3 Ab (A3 (B6 A4) A4))) (An _)))) Am)
  (A5 (Bc (Ai (Qc (K:=K) hq) (pv 1) (Bo Hq (hr.mono ∅) ⋯ (A3 (Bo Co (hr.mono ∅) ⋯ (A3 (pv 0) A4)) (A3 (pv 2) A4))) ⋯) (A7 (Ap (W6 (Ag (Dw (K:=K)) ⋯ T.b_isinstance PyProof.Rows.Boot.«isinstance» (A3 (pv 3) (A3 (Ho (v:=.ty "tuple") ⋯ T.b_tuple PyProof.Rows.Boot.«tuple» ⋯) A4))) (W6 (C3 (B5 (K:=K) hq) (Af (A8 (K:=K) hu) (pv 3) A9 (by ac_rfl)) Ab (An _)) (Vd (Bo Hr (hr.mono ∅) ⋯ (A3 (pv 0) (A3 (Af (A8 (K:=K) hu) (pv 3) A9 (by ac_rfl)) (A3 (pv 2) (A3 (pv 1) A4)))))))))) Am)
  (A5 (Bc (Ai (B5 (K:=K) hq) (Ag (C7 (K:=K)) ⋯ T.b_len PyProof.Rows.Boot.«len» (A3 (Af (A8 (K:=K) hu) (pv 0) Ab (by ac_rfl)) A4)) A9 (An _)) (A7 (Ap (C3 (B5 (K:=K) hq) (pv 3) (B6 (A3 Ab (A3 Ab A4))) (An _)))) Am)
  (A5 (Al (i:=5) Hv.nd ⋯ (by eq_refl) (Af (A8 (K:=K) hu) (pv 0) Ab (by ac_rfl)))
  (A5 (Dn hu (Af (A8 (K:=K) hu) (pv 0) Ab (by ac_rfl)) (pv 5) (B6 (A3 (pv 1) (A3 (pv 2) A4))) ⋯)
  (A5 (Dn hu (pv 0) Ab (B3 (Aw (K:=K)) (pv 5) A9) ⋯)
  (A5 (Bf (Ff (K:=K) A0F A0O A0P (mm Bg) (Af (A8 (K:=K) hu) (pv 0) Ab (by ac_rfl)) (A3 (B6 (A3 Ij (A3 (pv 5) (A3 (B6 (A3 (pv 1) (A3 (pv 2) A4))) A4)))) A4)))
  (A5 (Dn hu (pv 0) Ab (Bz A4) ⋯)
  (A7 (Ap (C3 (B5 (K:=K) hq) (Ag (Ca (K:=K) hq) ⋯ T.b_repr PyProof.Rows.Boot.«repr» (A3 (pv 3) A4)) (Ay T9 ⋯ T.b_str PyProof.Rows.Boot.«str» (A3 (pv 5) A4)) (An _)))))))))))))),?_⟩
 symm
 refine⟨p,pl,ul,ns,S,pa,un,"say",.str x,.str y,rfl,hS.kp,by omega,by omega,.inl ⟨rfl,x,y,rfl,rfl,by omega,λz u H1 hz e1 hu1=>?_,λhx hy=>⟨λu H1 js os e1 hu1 hjl hT=>?_,λhne hnw h60 u H1 e1 hu1=>?_,λhne hnw h60 ul' H1 hul' kp1 fz1 hK1=>?_⟩⟩⟩
 . obtain⟨as,bs,exy,has,hz'⟩:=hz
   symm
   refine Az (Aa nofun) λt2 H2 ht2 e2 h2'=>?_
   have e02:=e1.trans e2
   have hnv:=h2.nm_fz e02.fz
   have h12:=e02 _ _ h1
   have hu2:=Is.mono e2 _ _ hu1
   symm
   refine Ko (Ov (ns:=[x,y]) (SqT.of h2')) (λi σ H3=>∃ x4,σ=[some (.ref d),some (.str x),some (.str y),some u,x4,none]/\H3=H2/\∀ w∈[x,y].take i,w∈ns) ⟨_,rfl,rfl,by simp⟩ (λi σ' H' hP=>?_) (λi w σ' H3 hw hP=>?_) (fun σ' H3 hP=>?_)
   . obtain⟨_,_,rfl,_⟩:=hP
     exact .refl _
   . obtain⟨x4,rfl,rfl,hi⟩:=hP
     symm
     refine Sy hnv ?_
     symm
     refine Wz (λhc=>?_) (λhc=>?_)
     . have e:w=z:=by
        rw[exy] at hw hi
        rcases Nat.lt_trichotomy i as.length with lt | e | gt
        . exact absurd (has w (A04 (by rwa[A1B lt] at hw))) hc
        . rw[e,A2S (A07 _),Nat.sub_self] at hw
          exact(A0R hw).symm
        exact absurd (hi z (List.mem_take_iff_getElem.mpr ⟨as.length,by simp;omega,by simp⟩)) hz'
       subst e
       symm
       refine Az (Aa nofun) λt4 H4 ht4 e4 h4'=>?_
       have how:PyData.strOk w=true:=by
        have:w∈[x,y]:=A04 hw
        simp only[List.mem_cons,List.not_mem_nil,or_false] at this
        rcases this with rfl | rfl
        . exact hox
        exact hoy
       refine R6 (Is.mono e4 _ _ hu2) (Is.of_tup (SqT.of h4') (.cons Dp (.one Dp))) (Jc (by decide +kernel) how) (Jc (by decide +kernel) how) ?_
       rw[Yl]
       exact k1 _ (e02.trans e4)
     symm
     refine⟨_,rfl,rfl,λv hv=>?_⟩
     rw[A12,hw] at hv
     rcases A0B.mp hv with h | h
     . exact hi v h
     have:v=w:=by simpa using h
     exact this ▸ hc
   obtain⟨x4,rfl,rfl,hi⟩:=hP
   exact absurd (hi z (by rw[exy,List.take_length];simp)) hz'
 . symm
   refine Az (Aa nofun) λt2 H2 ht2 e2 h2'=>?_
   have e02:=e1.trans e2
   have hnv:=h2.nm_fz e02.fz
   have h12:=e02 _ _ h1
   have hu2:=Is.mono e2 _ _ hu1
   have hS2:=hS.of e02.fz λb _=>e02 b
   symm
   refine Ko (Ov (ns:=[x,y]) (SqT.of h2')) (λi σ H3=>∃ x4,σ=[some (.ref d),some (.str x),some (.str y),some u,x4,none]/\H3=H2) ⟨_,rfl,rfl⟩ (λi σ' H' hP=>?_) (λi w σ' H3 hw hP=>?_) (fun σ' H3 hP=>?_)
   . obtain⟨_,_,rfl⟩:=hP
     exact .refl _
   . obtain⟨x4,rfl,rfl⟩:=hP
     symm
     refine Sy hnv ?_
     have hwn:w∈ns:=by
      have:w∈[x,y]:=A04 hw
      simp only[List.mem_cons,List.not_mem_nil,or_false] at this
      rcases this with rfl | rfl
      . exact hx
      exact hy
     rw[A0S hwn]
     symm
     exact⟨_,rfl,rfl⟩
   obtain⟨x4,rfl,rfl⟩:=hP
   symm
   refine Fh (λhc=>?_) (λhc=>?_)
   . have hxy:x=y:=by injection hc
     subst hxy
     have:=ab1 hT
     subst this
     symm
     refine Az (Aa nofun) λt4 H4 ht4 e4 h4'=>?_
     symm
     refine Az (Aa nofun) λt5 H5 ht5 e5 h5'=>?_
     refine R6 (Is.mono (e4.trans e5) _ _ hu2) (Is.of_tup (SqT.of h5') (.cons Dp (.one (Is.of_tup (SqT.of (e5 _ _ h4')) .nil)))) T4 T4 ?_
     rw[show PyData.eqv (.tuple [.str "clash",aB5 S.1 []]) (.tuple [.str "clash",.tuple []])=true by simp[aB5,jsD,PyData.eqv,PyData.eqvAll]]
     exact k1 _ ((e02.trans e4).trans e5)
   have hxy:x≠y:=λq=>hc (by rw[q])
   have hw:Way (S.1.map (·.2)) y x:=(hT.way).resolve_left λq=>hxy q.symm
   obtain⟨ua,ux,uy,rfl,huS,hu0,hu1'⟩:=Si hu2
   have:=ao9 hu0
   subst this
   symm
   refine⟨d,p,kd,dl,vl,ns,S,ds,us,rfl,hS2.o,λv4 H4 e4 hv4=>?_⟩
   symm
   refine⟨v4,y,ns,S.1.map (·.2),rfl,hv4,by rw[A00];omega,hS.kp.at.okP,hoy,λq5 fs H5 hq5 e5 h5' hfn hfs=>?_⟩
   symm
   refine a02 (SqL.of h5') ?_
   rw[A0S ((hfs x).mpr hw)]
   have e25:=e4.trans e5
   have huS5:=e25.seqT huS
   symm
   refine Z8 huS5 (b:=true) (by first | rfl | kernel_rfl) ?_
   symm
   refine Ej huS5 (show atI _ 0=some (.str "clash") from rfl) ?_
   symm
   refine Ej huS5 (show atI _ 1=some uy from rfl) ?_
   symm
   refine⟨d,p,kd,dl,vl,ns,S,ds,us,uy,y,x,js,os,rfl,hS2.o.same e25,Is.mono e25 _ _ hu1',λq=>?_,hjl,hT,λH6 e6=>?_⟩
   . subst q
     have:=hT.len
     have hos:os=[]:=A1I.mp this
     have:=hT.hd
     rw[hos] at this
     exact hxy (A0R this)
   symm
   exact k1 _ ((e02.trans e25).trans e6)
 . symm
   refine Az (Aa nofun) λt2 H2 ht2 e2 h2'=>?_
   have e02:=e1.trans e2
   have hnv:=h2.nm_fz e02.fz
   have h12:=e02 _ _ h1
   have hu2:=Is.mono e2 _ _ hu1
   have hS2:=hS.of e02.fz λb _=>e02 b
   symm
   refine Ko (Ov (ns:=[x,y]) (SqT.of h2')) (λi σ H3=>∃ x4,σ=[some (.ref d),some (.str x),some (.str y),some u,x4,none]/\H3=H2) ⟨_,rfl,rfl⟩ (λi σ' H' hP=>?_) (λi w σ' H3 hw hP=>?_) (fun σ' H3 hP=>?_)
   . obtain⟨_,_,rfl⟩:=hP
     exact .refl _
   . obtain⟨x4,rfl,rfl⟩:=hP
     symm
     refine Sy hnv ?_
     have hwn:w∈ns:=by
      have:w∈[x,y]:=A04 hw
      simp only[List.mem_cons,List.not_mem_nil,or_false] at this
      rcases this with rfl | rfl
      . exact hx
      exact hy
     rw[A0S hwn]
     symm
     exact⟨_,rfl,rfl⟩
   obtain⟨x4,rfl,rfl⟩:=hP
   symm
   refine Fh (λhc=>absurd (by injection hc) hne) (λhc=>?_)
   symm
   refine⟨d,p,kd,dl,vl,ns,S,ds,us,rfl,hS2.o,λv4 H4 e4 hv4=>?_⟩
   symm
   refine⟨v4,y,ns,S.1.map (·.2),rfl,hv4,by rw[A00];omega,hS.kp.at.okP,hoy,λq5 fs H5 hq5 e5 h5' hfn hfs=>?_⟩
   symm
   refine a02 (SqL.of h5') ?_
   rw[A0Q (λq=>hnw ((hfs x).mp q))]
   symm
   have e05:=e02.trans (e4.trans e5)
   refine .inr ⟨kd,kvs,rfl,e05 _ _ h3,?_⟩
   rw[h4.len,show S.1.length=60 by omega]
   symm
   refine Fh (λ_=>?_) (λhc=>absurd rfl hc)
   symm
   refine Az (Aa nofun) λt6 H6 ht6 e6 h6'=>?_
   refine R6 (Is.mono ((e4.trans e5).trans e6) _ _ hu2) (Is.of_tup (SqT.of h6') (.cons Dp (.one Dp))) (Jc (by decide +kernel) (by decide +kernel)) (Jc (by decide +kernel) (by decide +kernel)) ?_
   rw[Yl]
   exact k1 _ (e05.trans e6)
 symm
 refine Az (Aa nofun) λt2 H2 ht2 e2 h2'=>?_
 have fz02:=fz1.trans e2.fz
 have kp2:Ur p pl H H2:=λb o q1 q2 q3=>e2 _ _ (kp1 b o q1 q2 q3)
 have hO:SdO K H2 d p kd dl vl ns S ds us:=hS.kept kp2 fz02
 have hK2:=hK1.same e2
 obtain⟨nv,kvs,ys,zs,h1,h2,h3,h4,h5,h6,h7,h8⟩:=hO.ex
 symm
 refine Ko (Ov (ns:=[x,y]) (SqT.of h2')) (λi σ H3=>∃ x4,σ=[some (.ref d),some (.str x),some (.str y),some (.int ((S.2:Nat):Int)),x4,none]/\H3=H2) ⟨_,rfl,rfl⟩ (λi σ' H' hP=>?_) (λi w σ' H3 hw hP=>?_) (fun σ' H3 hP=>?_)
 . obtain⟨_,_,rfl⟩:=hP
   exact .refl _
 . obtain⟨x4,rfl,rfl⟩:=hP
   symm
   refine Sy h2 ?_
   have hwn:w∈ns:=by
    have:w∈[x,y]:=A04 hw
    simp only[List.mem_cons,List.not_mem_nil,or_false] at this
    rcases this with rfl | rfl
    . exact hx
    exact hy
   rw[A0S hwn]
   symm
   exact⟨_,rfl,rfl⟩
 obtain⟨x4,rfl,rfl⟩:=hP
 symm
 refine Fh (λhc=>absurd (by injection hc) hne) (λhc=>?_)
 symm
 refine⟨d,p,kd,dl,vl,ns,S,ds,us,rfl,hO,λv4 H4 e4 hv4=>?_⟩
 symm
 refine⟨v4,y,ns,S.1.map (·.2),rfl,hv4,by rw[A00];omega,hS.kp.at.okP,hoy,λq5 fs H5 hq5 e5 h5' hfn hfs=>?_⟩
 symm
 refine a02 (SqL.of h5') ?_
 rw[A0Q (λq=>hnw ((hfs x).mp q))]
 symm
 have e25:=e4.trans e5
 have h15:=e25 _ _ h1
 have h35:=e25 _ _ h3
 have h55:=e25 _ _ h5
 refine .inr ⟨kd,kvs,rfl,h35,?_⟩
 rw[h4.len]
 symm
 refine Fh (λhc=>absurd hc (λq=>by injection q with q;omega)) (λ_=>?_)
 symm
 refine Az (Aa nofun) λt6 H6 ht6 e6 h6'=>?_
 symm
 have h36:=e6 _ _ h35
 have h16:=e6 _ _ h15
 refine Uq h36 (by have:=h4.len;omega) λH7 e7 h37=>?_
 have h17:=e7 _ _ hO.ne h16
 symm
 refine Gz h17 (by show 6<1000;decide) λH8 e8 h18=>?_
 replace h18:H8 d=some (.dK (sdK nv p kd (S.2+1) dl (.ref vl))):=h18
 symm
 have hdk:dl≠kd:=λq=>by rw[q,h35] at h55;cases h55
 have hdd:dl≠d:=λq=>by rw[q,h15] at h55;cases h55
 have h58:=e8 _ _ hdd (e7 _ _ hdk (e6 _ _ h55))
 refine Az (Aa nofun) λt9 H9 ht9 e9 h9'=>?_
 symm
 refine Az (Aa nofun) λt10 H10 ht10 e10 h10'=>?_
 symm
 have h510:=e10 _ _ (e9 _ _ h58)
 refine Fo h510 (by have:=IsL.length h6;rw[A00] at this;omega) λH11 e11 h511=>?_
 have h111:=e11 _ _ hdd.symm (e10 _ _ (e9 _ _ h18))
 symm
 refine B7 (Aa nofun) λt12 H12 ht12 e12 h12'=>?_
 symm
 have h112:=e12 _ _ h111
 refine Gz h112 (by show 6<1000;decide) λH13 e13 h113=>?_
 replace h113:H13 d=some (.dK (sdK nv p kd (S.2+1) dl (.ref t12))):=h113
 have h313:H13 kd=_:=e13 _ _ hO.ne.symm (e12 _ _ (e11 _ _ hdk.symm (e10 _ _ (e9 _ _ (e8 _ _ hO.ne.symm h37)))))
 have h513:=e13 _ _ hdd (e12 _ _ h511)
 have fz26:Fz H3 H6:=(e25.trans e6).fz
 have fz67:Fz H6 H7:=e7.fzD h36
 have fz713:Fz H7 H13:=(((e8.fzD h17).trans (e9.trans e10).fz).trans (e11.fzL h510)).trans (e12.fz.trans (e13.fzD h112))
 have fz213:=fz26.trans (fz67.trans fz713)
 have hdk7:kd≠d:=hO.ne.symm
 have hul3:H3 t12=none\/True:=.inr trivial
 obtain⟨dx,nv',w,pvs,uvs,g1,g2,g3,g4,g5,g6,g7⟩:=hK2.ex
 have hvd:vl≠d:=λq=>by rw[q,h1] at h7;cases h7
 have hvk:vl≠kd:=λq=>by rw[q,h3] at h7;cases h7
 have kpA:∀ b o,b≠d->b≠kd->b≠dl->H3 b=some o->H13 b=some o:=λb o q3 q4 q5 q=>e13 _ _ q3 (e12 _ _ (e11 _ _ q5 (e10 _ _ (e9 _ _ (e8 _ _ q3 (e7 _ _ q4 (e6 _ _ (e25 _ _ q))))))))
 have hpd:p≠d:=λz=>by rw[z,h1] at g1;cases g1
 have hpk:p≠kd:=λz=>by rw[z,h3] at g1;cases g1
 have hpl:p≠dl:=λz=>by rw[z,h5] at g1;cases g1
 have hld:pl≠d:=λz=>by rw[z,h1] at g4;cases g4
 have hlk:pl≠kd:=λz=>by rw[z,h3] at g4;cases g4
 have hud:ul'≠d:=λz=>by rw[z,h1] at g6;cases g6
 have huk:ul'≠kd:=λz=>by rw[z,h3] at g6;cases g6
 have hdu:dl≠ul':=λq=>by
  obtain⟨_,_,_,_,_,_,_,_,q5,_⟩:=hS.o.ex
  rw[q,hul'] at q5
  cases q5
 have live:∀ b o,H3 b=some o->b≠t12:=λb o q z=>by
  by_cases q3:b=d
  . rw[<- z,q3,h111] at ht12;cases ht12
  by_cases q4:b=kd
  . have:=e11 _ _ hdk.symm (e10 _ _ (e9 _ _ (e8 _ _ hO.ne.symm h37)))
    rw[<- z,q4,this] at ht12;cases ht12
  by_cases q5:b=dl
  . rw[<- z,q5,h511] at ht12;cases ht12
  have:=e11 _ _ q5 (e10 _ _ (e9 _ _ (e8 _ _ q3 (e7 _ _ q4 (e6 _ _ (e25 _ _ q))))))
  rw[z,ht12] at this
  cases this
 have hn12:H t12=none:=by
  cases z:H t12 with
  | none=>rfl
  | some o=>exact absurd rfl (live t12 o (kp2 _ _ (live _ _ g1).symm (live _ _ g4).symm z))
 symm
 refine a63 (d:=.int ((S.2:Nat):Int)) Gy (by simp only[PyData.showable,decide_eq_true_eq];have:=Sx (n:=S.2) (by omega);omega) ?_ (by simp only[PyData.depth];omega) ?_
 . have hq:=A4P (i:=((S.2:Nat):Int)) (by rw[A4V];omega)
   rw[A14]
   omega
 symm
 refine⟨((S.2:Nat):Int),rfl,Sx (by omega),?_⟩
 symm
 rw[show decide (V.str (PyData.int ((S.2:Nat):Int)).shown=V.str (toString ((S.2:Nat):Int)))=true from A0S rfl]
 have hv6:Is K H6 (prD (x,y)) (.ref t6):=ap3 (SqT.of h6')
 have hV:=hS.o.vs.said hS.kp.nd hS.kp.few hx hy hne hnw h60 (by omega)
 have h9p:Is K H13 (a69 (true,S.2,(x,y))) (.ref t10):=Is.fz ((e11.fzL h510).trans (e12.fz.trans (e13.fzD h112))) _ _ (Jy _) (Is.of_tup (SqT.of h10') (.cons an7 (.cons Gy (.one (Is.mono e10 _ _ (show Is K H9 (prD (x,y)) (.ref t9) from ap3 (SqT.of h9')))))))
 refine k [p,pl,ul',d,kd,dl,t12] H13 (Ow.new hul' hn12) (λb o hb q=>?_) (fz02.trans fz213) ⟨pl,ul',kd,dl,t12,(S.1++[(S.2,(x,y))],S.2+1),ds++[(true,S.2,(x,y))],[],pa++[S],[],rfl,⟨⟨⟨nv,_,_,[],h113,h2.nm_fz fz213,h313,((h4.fz fz26).put (λe he=>Nat.ne_of_lt (hO.vs.lt e he)) hv6 (.refl _)).fz (fz67.trans fz713),h513,?_,e13 _ _ (live _ _ h1).symm h12',.nil⟩,hV,hO.ne,live _ _ h5⟩,hK2.of fz213 (λo q=>kpA _ o hpd hpk hpl q) (λo q=>kpA _ o hld hlk hS.n1.symm q) (λo q=>kpA _ o hud huk hdu.symm q),.snoc hS.hi (by have:=Step.say S.1 S.2 (x,y);exact this),.nil _,hS.n1,hdu,(live _ _ g4).symm,(live _ _ g6).symm⟩,by rw[List.length_append];simp;omega⟩
 . obtain⟨q1,q2,q3,q4,q5,q6,q7⟩:=aa8 hb
   exact kpA _ _ q4 q5 q6 (kp2 _ _ q1 q2 q)
 rw[A0G]
 exact(IsL.fz fz213 _ _ (Gg _) h6).append (.one h9p)
theorem Y2 {td ty:TE}{σ:L2.St}{H:Hp}{Q:VK}(k:td σ H λx H1=>∃ a,x = .ref a/\IsD H1 a/\ty σ H1 λy H2=>∃ kvs k v,H2 a=some (.dK kvs)/\y=kV k/\Dj kvs k=some v/\Q v (upd H2 a (.dK (Ei kvs k)))):ag3 td ty σ H Q:=k
theorem Tk (i:Int):SeqAt.shaped (.tuple [.str "saying",.int i])=true:=by
 simp only[SeqAt.shaped,PyData.canLay0,PyData.canLayAll0,PyData.depth,PyData.depthAll,show PyData.strOk ("saying":Str)=true by decide +kernel]
 rfl
theorem ay0 (i:Int):PyData.eqv (.tuple [.str "saying",.int i]) (.tuple [.str "saying",.int i])=true:=by simp[PyData.eqv,PyData.eqvAll]
def J7 (C:Addr)(K:PySem.W.Frag):Sp:=λvs H Q _=>∃ d p A ns c i,vs=[.ref d,.int i]/\Sd K C H A d p ns c/\c<800/\Aft K C H A d p ns (c+1) Q
theorem Rz {f:Addr}{fd:FuncData}(F:Fun K "_law_take" "_law_take" El f fd)(T:Fp mg){C_Keeper:Addr}(k_Keeper:Aq K C_Keeper)(Ax:Fnd P w K mg base 5 "_law_told_by" ["_law_keeper","_law_word","_law_one","_law_other"] (C9 C_Keeper K)):FnOk P w K mg base CX0 6 f fd ["_law_side_here","_law_number"] (J7 C_Keeper K):=by
 refine F.ok Lh (λvs H Q E h=>?_) (λcdv A outer s H vs Q E hr h=>?_)
 . obtain⟨d,p,A,ns,c,i,rfl,_⟩:=h
   rfl
 obtain⟨d,p,A,ns,c,i,rfl,hSd,hc8,k⟩:=h
 have k1:∀ H',Same H H'->Q (.bl true) H':=λH' e=>k.same hSd (A20 _) e
 obtain⟨pl,ul,kd,dl,vl,S,ds,us,pa,un,rfl,hS,hc⟩:=hSd
 have hu:=Cc hr
 have hq:=Cd hr
 have hla:=hS.hi.len
 have hlu:=hS.fu.len
 have hle:=hS.o.vs.le
 obtain⟨nv,kvs,ys,zs,h1,h2,h3,h4,h5,h6,h7,h8⟩:=hS.o.ex
 with_reducible refine⟨_,(A5 (Al (i:=2) Lh.nd ⋯ (by eq_refl) (Bo Ax (hr.mono ∅) ⋯ (A3 (Af (A8 (K:=K) hu) (pv 0) Ab (by ac_rfl)) (A3 Ab (A3 (pv 1) (A3 Ih A4))))))
  (A5 (Bc (Ai (Ga (K:=K) hq) (pv 1) (Af (A8 (K:=K) hu) (pv 0) Ab (by ac_rfl)) ⋯) (A7 (Ap (C3 (B5 (K:=K) hq) (pv 2) (B6 (A3 Ab (A3 (pv 1) A4))) (An _)))) Am)
  (A5 (Bf (Ff (K:=K) A0F A0O A0P (mm Bg) (Af (A8 (K:=K) hu) (pv 0) Ab (by ac_rfl)) (A3 (B6 (A3 Ij (A3 (pv 1) (A3 (Vj (Af (A8 (K:=K) hu) (pv 0) Ab (by ac_rfl)) (pv 1) (by with_unfolding_all exact⟨rfl,rfl,rfl,rfl⟩)) A4)))) A4)))
  (A5 (Dn hu (pv 0) Ab (Bz A4) ⋯)
  (A7 (Ap (C3 Zi (pv 2) Ih (An _)))))))),?_⟩
 symm
 refine⟨p,pl,ul,ns,S,pa,un,"take",.int i,.non,rfl,hS.kp,by omega,by omega,.inr (.inl ⟨rfl,i,rfl,λm q hm hi ul' H1 hul' kp1 fz1 hK1=>?_,λhno u H1 e1 hu1=>?_⟩)⟩
 . subst hi
   have hO:=hS.kept kp1 fz1
   obtain⟨nv,kvs,ys,zs,h1,h2,h3,h4,h5,h6,h7,h8⟩:=hO.ex
   obtain⟨v,hv1,hv2⟩:=h4.vs (m,q) hm
   symm
   refine Qs h3 ?_
   rw[hv1,Option.isNone_some]
   symm
   refine Y2 ?_
   symm
   refine⟨kd,rfl,.inl ⟨kvs,.inl h3⟩,?_⟩
   symm
   refine⟨kvs,Sum.inl ((m:Nat):Int),v,h3,rfl,hv1,?_⟩
   have e2:ExtBut kd H1 (upd H1 kd (.dK (Ei kvs (Sum.inl ((m:Nat):Int):Key)))):=ExtBut.upd
   have h32:upd H1 kd (.dK (Ei kvs (Sum.inl ((m:Nat):Int):Key))) kd=some (.dK (Ei kvs (Sum.inl ((m:Nat):Int):Key))):=Ad
   generalize upd H1 kd (.dK (Ei kvs (Sum.inl ((m:Nat):Int):Key)))=H2 at e2 h32 ⊢
   have h12:=e2 _ _ hO.ne h1
   have hdk:dl≠kd:=λq=>by rw[q,h3] at h5;cases h5
   have hdd:dl≠d:=λq=>by rw[q,h1] at h5;cases h5
   have h52:=e2 _ _ hdk h5
   symm
   refine Az (Aa nofun) λt3 H3 ht3 e3 h3'=>?_
   symm
   have h53:=e3 _ _ h52
   refine Fo h53 (by have:=IsL.length h6;rw[A00] at this;omega) λH4 e4 h54=>?_
   have h14:=e4 _ _ hdd.symm (e3 _ _ h12)
   symm
   refine B7 (Aa nofun) λt5 H5 ht5 e5 h5'=>?_
   symm
   have h15:=e5 _ _ h14
   refine Gz h15 (by show 6<1000;decide) λH6 e6 h16=>?_
   replace h16:H6 d=some (.dK (sdK nv p kd S.2 dl (.ref t5))):=h16
   have h36:=e6 _ _ hO.ne.symm (e5 _ _ (e4 _ _ hdk.symm (e3 _ _ h32)))
   have h56:=e6 _ _ hdd (e5 _ _ h54)
   have fz12:Fz H1 H2:=e2.fzD h3
   have fz26:Fz H2 H6:=((e3.fz.trans (e4.fzL h53)).trans e5.fz).trans (e6.fzD h15)
   have fz16:=fz12.trans fz26
   obtain⟨dx,nv',w,pvs,uvs,g1,g2,g3,g4,g5,g6,g7⟩:=hK1.ex
   have kpA:∀ b o,b≠d->b≠kd->b≠dl->H1 b=some o->H6 b=some o:=λb o q3 q4 q5 q=>e6 _ _ q3 (e5 _ _ (e4 _ _ q5 (e3 _ _ (e2 _ _ q4 q))))
   have hpd:p≠d:=λz=>by rw[z,h1] at g1;cases g1
   have hpk:p≠kd:=λz=>by rw[z,h3] at g1;cases g1
   have hpl:p≠dl:=λz=>by rw[z,h5] at g1;cases g1
   have hld:pl≠d:=λz=>by rw[z,h1] at g4;cases g4
   have hlk:pl≠kd:=λz=>by rw[z,h3] at g4;cases g4
   have hud:ul'≠d:=λz=>by rw[z,h1] at g6;cases g6
   have huk:ul'≠kd:=λz=>by rw[z,h3] at g6;cases g6
   have hdu:dl≠ul':=λq=>by
    obtain⟨_,_,_,_,_,_,_,_,q5,_⟩:=hS.o.ex
    rw[q,hul'] at q5
    cases q5
   have live:∀ b o,H1 b=some o->b≠t5:=λb o q z=>by
    by_cases q3:b=d
    . rw[<- z,q3,h14] at ht5;cases ht5
    by_cases q4:b=kd
    . have:=e4 _ _ hdk.symm (e3 _ _ h32)
      rw[<- z,q4,this] at ht5;cases ht5
    by_cases q5:b=dl
    . rw[<- z,q5,h54] at ht5;cases ht5
    have:=e4 _ _ q5 (e3 _ _ (e2 _ _ q4 q))
    rw[z,ht5] at this
    cases this
   have hn5:H t5=none:=by
    cases z:H t5 with
    | none=>rfl
    | some o=>exact absurd rfl (live t5 o (kp1 _ _ (live _ _ g1).symm (live _ _ g4).symm z))
   have h9p:Is K H6 (a69 (false,m,q)) (.ref t3):=Is.fz ((e4.fzL h53).trans (e5.fz.trans (e6.fzD h15))) _ _ (Jy _) (Is.of_tup (SqT.of h3') (.cons an7 (.cons Gy (.one (Is.fz (fz12.trans e3.fz) _ _ (Jo _) hv2)))))
   symm
   refine k [p,pl,ul',d,kd,dl,t5] H6 (Ow.new hul' hn5) (λb o hb q=>?_) (fz1.trans fz16) ⟨pl,ul',kd,dl,t5,(Rr m S.1,S.2),ds++[(false,m,q)],[],pa++[S],[],rfl,⟨⟨⟨nv,_,_,[],h16,h2.nm_fz fz16,h36,(h4.out m).fz fz16,h56,?_,e6 _ _ (live _ _ h1).symm h5',.nil⟩,hO.vs.out m,hO.ne,live _ _ h5⟩,hK1.of fz16 (λo q=>kpA _ o hpd hpk hpl q) (λo q=>kpA _ o hld hlk hS.n1.symm q) (λo q=>kpA _ o hud huk hdu.symm q),.snoc hS.hi (by have:=Step.take S.1 S.2 m q hm;exact this),.nil _,hS.n1,hdu,(live _ _ g4).symm,(live _ _ g6).symm⟩,by rw[List.length_append];simp;omega⟩
   . obtain⟨q1,q2,q3,q4,q5,q6,q7⟩:=aa8 hb
     exact kpA _ _ q4 q5 q6 (kp1 _ _ q1 q2 q)
   rw[A0G]
   exact(IsL.fz fz16 _ _ (Gg _) h6).append (.one h9p)
 symm
 refine Qs (e1 _ _ h3) ?_
 rw[h4.no hno,Option.isNone_none]
 symm
 refine Az (Aa nofun) λt2 H2 ht2 e2 h2'=>?_
 refine R6 (Is.mono e2 _ _ hu1) (Is.of_tup (SqT.of h2') (.cons Dp (.one Gy))) (Tk i) (Tk i) ?_
 rw[ay0]
 exact k1 _ (e1.trans e2)
def K8 (K:PySem.W.Frag):Sp:=λvs H Q _=>∃ d p kd dl nv uv n kvs t D sd,vs=[.ref d,t,.bl sd]/\H d=some (.dK (sdK nv p kd n dl uv))/\H kd=some (.dK kvs)/\d≠kd/\kvs.length<=1000/\Is K H (a69 D) t/\(sd=false->∃ v,Dj kvs (Sum.inl ((D.2.1:Nat):Int):Key)=some v) /\
 ∀ H' v,Zm [d,kd] H H'->Fz H H'->Is K H (prD D.2.2) v->H' d=some (.dK (sdK nv p kd (if D.1=true then D.2.1+(if sd=true then 1 else 0) else n) dl uv))->H' kd=some (.dK (if sd=true then Hl kvs (Sum.inl ((D.2.1:Nat):Int):Key) v else Ei kvs (Sum.inl ((D.2.1:Nat):Int):Key)))->Q .non H'
theorem Us {K:PySem.W.Frag}{H:Hp}{D:DD}{v:V}(h:Is K H (a69 D) v):∃ a x,v = .ref a/\SqT K H a [.bl D.1,.int ((D.2.1:Nat):Int),x]/\Is K H (prD D.2.2) x:=by
 obtain⟨a,xs,rfl,hS,hL⟩:=h.tup
 obtain⟨x,us,rfl,h1,hL⟩:=K1 hL
 obtain⟨y,us2,rfl,h2,hL⟩:=K1 hL
 obtain⟨z,us3,rfl,h3,hL⟩:=K1 hL
 have:=Jb hL
 subst this
 have e1:x = .bl D.1:=by simpa only[Is] using h1
 have e2:=Nu h2
 subst e1 e2
 exact⟨a,z,rfl,hS,h3⟩
theorem Ub {f:Addr}{fd:FuncData}(F:Fun K "_law_lay" "_law_lay" Fw f fd)(T:Fp mg):FnOk P w K mg base CX0 1 f fd ["_law_side_here","_law_deed_here","_law_is_said"] (K8 K):=by
 refine F.ok Uf (λvs H Q E h=>?_) (λcdv A outer s H vs Q E hr h=>?_)
 . obtain⟨d,p,kd,dl,nv,uv,n,kvs,t,D,sd,rfl,_⟩:=h
   rfl
 obtain⟨d,p,kd,dl,nv,uv,n,kvs,t,D,sd,rfl,h1,h3,hne,hl,hI,hv,k⟩:=h
 have hu:=Cc hr
 have hq:=Cd hr
 obtain⟨ta,v,rfl,hS,hP⟩:=Us hI
 obtain⟨b,m,q⟩:=D
 with_reducible refine⟨_,(A5 (Bc (Dr (pv 2)) (A7 (Dn hu (Af (A8 (K:=K) hu) (pv 0) Ab (by ac_rfl)) (Af (A8 (K:=K) hu) (pv 1) A9 (by ac_rfl)) (Af (A8 (K:=K) hu) (pv 1) A9 (by ac_rfl)) ⋯)) (A7 (Bf (Vj (Af (A8 (K:=K) hu) (pv 0) Ab (by ac_rfl)) (Af (A8 (K:=K) hu) (pv 1) A9 (by ac_rfl)) (by with_unfolding_all exact⟨rfl,rfl,rfl,rfl⟩)))))
  (A7 (Bc (Dr (Af (A8 (K:=K) hu) (pv 1) A9 (by ac_rfl))) (A7 (Dn hu (pv 0) Ab (B3 (Aw (K:=K)) (Af (A8 (K:=K) hu) (pv 1) A9 (by ac_rfl)) (Ay Ip ⋯ T.b_int PyProof.Rows.Boot.«int» (A3 (pv 2) A4))) ⋯)) Am))),?_⟩
 walk_at "rq"
 with_reducible refine Ws (fun σ' H'=>σ'=[some (.ref d),some (.ref ta),some (.bl sd)]/\Zm [kd] H H'/\Fz H H'/\H' kd=some (.dK (if sd=true then Hl kvs (Sum.inl ((m:Nat):Int):Key) v else Ei kvs (Sum.inl ((m:Nat):Int):Key)))) (λN hN'=>?_) (fun σ1 H2 hM=>?_)
 . walk_at "rq"
   refine az7 (λhb=>?_) (λhb=>?_)
   . subst hb
     walk_at "rq"
     refine Ej hS (show atI _ 2=some v from rfl) ?_
     walk_at "rq"
     refine Ej hS (show atI _ 1=some (.int ((m:Nat):Int)) from rfl) ?_
     refine Uq h3 (by omega) λH2 e2 h32=>?_
     exact hN' _ _ ⟨rfl,λb o hb q=>e2 _ _ (λz=>hb (by simp[z])) q,e2.fzD h3,h32⟩
   subst hb
   obtain⟨u,hu1⟩:=hv rfl
   walk_at "rq"
   refine Y2 ?_
   walk_at "rq"
   refine⟨kd,rfl,.inl ⟨kvs,.inl h3⟩,?_⟩
   walk_at "rq"
   refine Ej hS (show atI _ 1=some (.int ((m:Nat):Int)) from rfl) ?_
   refine⟨kvs,Sum.inl ((m:Nat):Int),u,h3,rfl,hu1,?_⟩
   have e2:ExtBut kd H (upd H kd (.dK (Ei kvs (Sum.inl ((m:Nat):Int):Key)))):=ExtBut.upd
   have h32:upd H kd (.dK (Ei kvs (Sum.inl ((m:Nat):Int):Key))) kd=some (.dK (Ei kvs (Sum.inl ((m:Nat):Int):Key))):=Ad
   generalize upd H kd (.dK (Ei kvs (Sum.inl ((m:Nat):Int):Key)))=H2 at e2 h32 ⊢
   exact hN' _ _ ⟨rfl,λb o hb q=>e2 _ _ (λz=>hb (by simp[z])) q,e2.fzD h3,h32⟩
 obtain⟨rfl,kp2,fz2,h32⟩:=hM
 have h12:=kp2 _ _ (by simpa using hne) h1
 have hS2:=fz2.seq hS
 symm
 refine Ej hS2 (show atI _ 0=some (.bl b) from rfl) ?_
 symm
 cases b with
 | false=>
   symm
   exact k H2 v (λb o hb q=>kp2 _ _ (by simp only[List.mem_cons,List.not_mem_nil,or_false,not_or] at hb ⊢;exact hb.2) q) fz2 hP h12 h32
 | true=>
   symm
   refine Ej hS2 (show atI _ 1=some (.int ((m:Nat):Int)) from rfl) ?_
   symm
   refine Gz h12 (by show 6<1000;decide) λH3 e3 h13=>?_
   have ec:((m:Nat):Int)+(if sd=true then 1 else 0)=(((m+(if sd=true then 1 else 0):Nat)):Int):=by split<;>simp
   rw[ec] at h13
   exact k H3 v (λb o hb q=>e3 _ _ (λz=>hb (by simp[z])) (kp2 _ _ (by simp only[List.mem_cons,List.not_mem_nil,or_false,not_or] at hb ⊢;exact hb.2) q)) (fz2.trans (e3.fzD h12)) hP h13 (e3 _ _ hne.symm h32)
theorem Hist.back {S:SS}{ds:List DD}{ss:List SS}(h:Hist S ds ss):(ds=[]/\ss=[])\/∃ S0 D ds' ss',ds=ds'++[D]/\ss=ss'++[S0]/\Hist S0 ds' ss'/\Step S0 D S:=by
 cases h with
 | nil=>exact .inl ⟨rfl,rfl⟩
 | snoc h g=>exact .inr ⟨_,_,_,_,rfl,rfl,h,g⟩
theorem Fut.back {S:SS}{ds:List DD}{ss:List SS}(h:Fut S ds ss):(ds=[]/\ss=[])\/∃ S1 D ds' ss',ds=ds'++[D]/\ss=ss'++[S1]/\Fut S1 ds' ss'/\Step S D S1:=by
 cases h with
 | nil=>exact .inl ⟨rfl,rfl⟩
 | snoc g h=>exact .inr ⟨_,_,_,_,rfl,rfl,h,g⟩
theorem Hs:SeqAt.shaped (.tuple [.str "more"])=true:=by
 simp only[SeqAt.shaped,PyData.canLay0,PyData.canLayAll0,PyData.depth,PyData.depthAll,show PyData.strOk ("more":Str)=true by decide +kernel]
 rfl
theorem Yn {es:List (Nat×(Str×Str))}{n:Nat}{q:Str×Str}(h:∀ e∈es,e.1<n):Rr n (es++[(n,q)])=es:=by
 unfold Rr
 rw [List.filter_append,List.filter_eq_self.mpr (λe he=>by have:=h e he;simp;omega),List.filter_cons_of_neg nofun]
 simp
theorem KeD.undo {K:PySem.W.Frag}{H:Hp}{kvs:List (Key×V)}{S0 S:SS}{D:DD}{ns:List Str}{v:V}(g:Step S0 D S)(h:KeD K H kvs S.1)(v0:Vs ns S0.1 S0.2)(hv:Is K H (prD D.2.2) v):KeD K H (if(!D.1)=true then Hl kvs (Sum.inl ((D.2.1:Nat):Int):Key) v else Ei kvs (Sum.inl ((D.2.1:Nat):Int):Key)) S0.1/\(if D.1=true then D.2.1+(if(!D.1)=true then 1 else 0) else S.2)=S0.2/\((!D.1)=false->∃ u,Dj kvs (Sum.inl ((D.2.1:Nat):Int):Key)=some u):=by
 cases g with
 | say es n q=>
   refine⟨?_,rfl,λ_=>?_⟩
   . have:=h.out n
     rw[Yn v0.lt] at this
     exact this
   obtain⟨u,hu,_⟩:=h.vs (n,q) nofun
   exact⟨u,hu⟩
 | take es n m q hm=>
   refine⟨?_,rfl,λq=>by cases q⟩
   exact h.put (λe he z=>by simp[Rr,z] at he) hv (W8 v0.so hm)
theorem KeD.redo {K:PySem.W.Frag}{H:Hp}{kvs:List (Key×V)}{S S1:SS}{D:DD}{ns:List Str}{v:V}(g:Step S D S1)(h:KeD K H kvs S.1)(v0:Vs ns S.1 S.2)(hv:Is K H (prD D.2.2) v):KeD K H (if D.1=true then Hl kvs (Sum.inl ((D.2.1:Nat):Int):Key) v else Ei kvs (Sum.inl ((D.2.1:Nat):Int):Key)) S1.1/\(if D.1=true then D.2.1+(if D.1=true then 1 else 0) else S.2)=S1.2/\(D.1=false->∃ u,Dj kvs (Sum.inl ((D.2.1:Nat):Int):Key)=some u):=by
 cases g with
 | say es n q=>
   refine⟨?_,rfl,λq=>by cases q⟩
   exact h.put (λe he=>A0J (v0.lt e he)) hv (.refl _)
 | take es n m q hm=>
   refine⟨h.out m,rfl,λ_=>?_⟩
   obtain⟨u,hu,_⟩:=h.vs (m,q) hm
   exact⟨u,hu⟩
def Ik (C:Addr)(K:PySem.W.Frag):Sp:=λvs H Q _=>∃ d p A ns c w,vs=[.ref d,.str w]/\(w=("undo":Str)\/w=("redo":Str))/\Sd K C H A d p ns c/\c<800/\Aft K C H A d p ns c Q
theorem az3 {K:PySem.W.Frag}{C:Addr}{H H':Hp}{d p pl ul kd dl vl:Addr}{ns:List Str}{S:SS}{ds us:List DD}{pa un:List SS}(h:SdH K C H d p pl ul kd dl vl ns S ds us pa un)(k:Y9 p pl ul H H')(f:Fz H H'):SdO K H' d p kd dl vl ns S ds us:=by
 obtain⟨nv,kvs,ys,zs,h1,h2,h3,h4,h5,h6,h7,h8⟩:=h.o.ex
 obtain⟨dx,nv',w,pvs,uvs,g1,g2,g3,g4,g5,g6,g7⟩:=h.kp.ex
 refine h.o.of f (λo q=>k _ _ (λz=>?_) (λz=>?_) (λz=>?_) q) (λo q=>k _ _ (λz=>?_) (λz=>?_) (λz=>?_) q) (λo q=>k _ _ (λz=>?_) h.n1 h.n2 q) (λo q=>k _ _ (λz=>?_) h.n3 h.n4 q)
 . rw[z,g1] at h1;cases h1
 . rw[z,g4] at h1;cases h1
 . rw[z,g6] at h1;cases h1
 . rw[z,g1] at h3;cases h3
 . rw[z,g4] at h3;cases h3
 . rw[z,g6] at h3;cases h3
 . rw[z,g1] at h5;cases h5
 rw[z,g1] at h7;cases h7
theorem Sr {f:Addr}{fd:FuncData}(F:Fun K "_law_back" "_law_back" Ek f fd)(T:Fp mg){C_Keeper:Addr}(k_Keeper:Aq K C_Keeper)(Ax:Fnd P w K mg base 5 "_law_told_by" ["_law_keeper","_law_word","_law_one","_law_other"] (C9 C_Keeper K))(Kw:Fnd P w K mg base 1 "_law_lay" ["_law_side_here","_law_deed_here","_law_is_said"] (K8 K)):FnOk P w K mg base CX0 6 f fd ["_law_side_here","_law_word"] (Ik C_Keeper K):=by
 refine F.ok Gi (λvs H Q E h=>?_) (λcdv A outer s H vs Q E hr h=>?_)
 . obtain⟨d,p,A,ns,c,w,rfl,_⟩:=h
   rfl
 obtain⟨d,p,A,ns,c,w,rfl,hw,hSd,hc8,k⟩:=h
 have k1:∀ H',Same H H'->Q (.bl true) H':=λH' e=>k.same hSd (A07 _) e
 obtain⟨pl,ul,kd,dl,vl,S,ds,us,pa,un,rfl,hS,hc⟩:=hSd
 have hu:=Cc hr
 have hq:=Cd hr
 have hla:=hS.hi.len
 have hlu:=hS.fu.len
 have hle:=hS.o.vs.le
 obtain⟨nv,kvs,ys,zs,h1,h2,h3,h4,h5,h6,h7,h8⟩:=hS.o.ex
 with_reducible refine⟨_,(A5 (Al (i:=2) Gi.nd ⋯ (by eq_refl) (Bo Ax (hr.mono ∅) ⋯ (A3 (Af (A8 (K:=K) hu) (pv 0) Ab (by ac_rfl)) (A3 (pv 1) (A3 Ih (A3 Ih A4))))))
  (A5 (Al (i:=3) Gi.nd ⋯ (by eq_refl) (Iy (Bz (A3 Ab (A3 Ab A4))) (Af (A8 (K:=K) hu) (Bz (A3 A9 (A3 (aa4 Vr A9) A4))) (Ay Ip ⋯ T.b_int PyProof.Rows.Boot.«int» (A3 (C3 (B5 (K:=K) hq) (pv 1) Ab (An _)) A4)) (by ac_rfl))))
  (A5 (Bc (Ai (ai8 (K:=K) hq) (Af (A8 (K:=K) hu) (pv 0) (Af (A8 (K:=K) hu) (pv 3) A9 (by ac_rfl)) (by ac_rfl)) (Bz A4) (An _)) (A7 (Ap (C3 (B5 (K:=K) hq) (pv 2) (B6 (A3 Ab A4)) (An _)))) Am)
  (A5 (Al (i:=4) Gi.nd ⋯ (by eq_refl) (L0 (K:=K) A0F A2K A2L (mm Wa) (Af (A8 (K:=K) hu) (pv 0) (Af (A8 (K:=K) hu) (pv 3) A9 (by ac_rfl)) (by ac_rfl))))
  (A5 (Bf (Bo Kw (hr.mono ∅) ⋯ (A3 (pv 0) (A3 (pv 4) (A3 (C3 (B5 (K:=K) hq) (Af (A8 (K:=K) hu) (pv 4) A9 (by ac_rfl)) (C3 (B5 (K:=K) hq) (pv 1) Ab (An _)) (An _)) A4)))))
  (A5 (Bf (Ff (K:=K) A0F A0O A0P (mm Bg) (Af (A8 (K:=K) hu) (pv 0) (Af (A8 (K:=K) hu) (pv 3) A9 (by ac_rfl)) (by ac_rfl)) (A3 (pv 4) A4)))
  (A7 (Ap (C3 Zi (pv 2) Ih (An _)))))))))),?_⟩
 symm
 rcases hw with rfl | rfl
 . refine⟨p,pl,ul,ns,S,pa,un,"undo",.non,.non,rfl,hS.kp,by omega,by omega,.inr (.inr (.inl ⟨rfl,λhp0 u H1 e1 hu1=>?_,λS0 pa' hpa H1 kp1 fz1 hK1=>?_⟩))⟩
   . have hd0:ds=[]:=by
      rcases hS.hi.back with q | ⟨_,_,_,_,_,q,_⟩
      . exact q.1
      rw[hp0] at q
      simp at q
     have hy0:ys=[]:=by
      rw[hd0] at h6
      exact Jb h6
     symm
     refine B7 (Aa nofun) λq2 H2 hq2 e2 h2'=>?_
     symm
     refine B7 (Aa nofun) λq3 H3 hq3 e3 h3'=>?_
     symm
     rw[show decide (V.str ("undo":Str)=V.str ("redo":Str))=false by decide +kernel]
     refine Eh h3' (v:=.int 1) (by rfl) ?_
     refine Qg (SqL.of (e3 _ _ h2')) (.inl rfl) λq4 H4 hq4 e4 h4'=>?_
     replace h4':H4 q4=some (.lst [.str "done",.str "undone"]):=h4'
     have e14:=e2.trans (e3.trans e4)
     have e04:=e1.trans e14
     have h14:=e04 _ _ h1
     symm
     refine Eh h4' (v:=.str "done") (by rfl) ?_
     symm
     refine B7 (Aa nofun) λq5 H5 hq5 e5 h5'=>?_
     refine W0 (SqL.of (e5 _ _ (e04 _ _ h5))) (SqL.of h5') ?_
     rw[hy0,List.isEmpty_nil]
     symm
     refine Az (Aa nofun) λt6 H6 ht6 e6 h6'=>?_
     refine R6 (Is.mono (e14.trans (e5.trans e6)) _ _ hu1) (Is.of_tup (SqT.of h6') (.one Dp)) Hs Hs ?_
     rw[show PyData.eqv (.tuple [.str "more"]) (.tuple [.str "more"])=true by simp[PyData.eqv,PyData.eqvAll]]
     exact k1 _ (e04.trans (e5.trans e6))
   obtain⟨D,ds',hds,hH,hst⟩:∃ D ds',ds=ds'++[D]/\Hist S0 ds' pa'/\Step S0 D S:=by
    rcases hS.hi.back with q | ⟨S1,D,ds',ss',q1,q2,q3,q4⟩
    . rw[q.2] at hpa
      simp at hpa
    rw[q2] at hpa
    obtain⟨e1,e2⟩:=List.append_inj' hpa rfl
    injection e2 with e2 _
    subst e1 e2
    exact⟨D,ds',q1,q3,q4⟩
   have hO:=az3 hS kp1 fz1
   clear h1 h2 h3 h4 h5 h6 h7 h8
   obtain⟨nv,kvs,ys,zs,h1,h2,h3,h4,h5,h6,h7,h8⟩:=hO.ex
   rw[hds,A0G] at h6
   obtain⟨us',dv,rfl,hL0,hI0⟩:=Mb h6
   have hyl:us'.length=ds'.length:=by rw[<- IsL.length hL0,A00]
   have hzl:=IsL.length h8
   rw[A00] at hzl
   have hdl:=congrArg List.length hds
   rw[A0H] at hdl
   have hld:dl≠d:=λq=>by rw[q,h1] at h5;cases h5
   have hlk:dl≠kd:=λq=>by rw[q,h3] at h5;cases h5
   have hld':vl≠d:=λq=>by rw[q,h1] at h7;cases h7
   have hlk':vl≠kd:=λq=>by rw[q,h3] at h7;cases h7
   have hll:dl≠vl:=hO.nv
   symm
   refine B7 (Aa nofun) λq2 H2 hq2 e2 h2'=>?_
   symm
   refine B7 (Aa nofun) λq3 H3 hq3 e3 h3'=>?_
   symm
   rw[show decide (V.str ("undo":Str)=V.str ("redo":Str))=false by decide +kernel]
   refine Eh h3' (v:=.int 1) (by rfl) ?_
   refine Qg (SqL.of (e3 _ _ h2')) (.inl rfl) λq4 H4 hq4 e4 h4'=>?_
   replace h4':H4 q4=some (.lst [.str "done",.str "undone"]):=h4'
   have e14:=e2.trans (e3.trans e4)
   have h14:=e14 _ _ h1
   symm
   refine Eh h4' (v:=.str "done") (by rfl) ?_
   symm
   refine B7 (Aa nofun) λq5 H5 hq5 e5 h5'=>?_
   have e15:=e14.trans e5
   have hs5:=e15 _ _ h5
   refine W0 (SqL.of hs5) (SqL.of h5') ?_
   rw[show(us'++[dv]).isEmpty=false by simp]
   have h15:=e15 _ _ h1
   have h45:=e5 _ _ h4'
   symm
   refine Eh h45 (v:=.str "done") (by rfl) ?_
   symm
   refine Sj hs5 λH6 e6 hs6=>?_
   have h16:=e6 _ _ hld.symm h15
   have hq4s:q4≠dl:=(ne_of_none (e3 _ _ (e2 _ _ h5)) hq4).symm
   have hq4d:q4≠d:=(ne_of_none (e3 _ _ (e2 _ _ h1)) hq4).symm
   have hq4k:q4≠kd:=(ne_of_none (e3 _ _ (e2 _ _ h3)) hq4).symm
   have hq4t:q4≠vl:=(ne_of_none (e3 _ _ (e2 _ _ h7)) hq4).symm
   have h46:=e6 _ _ hq4s h45
   have fz16:Fz H1 H6:=e15.fz.trans (e6.fzL hs5)
   have hI6:=Is.fz fz16 _ _ (Jy _) hI0
   obtain⟨ta,tv,rfl,hSq,hPv⟩:=Us hI6
   symm
   refine Ej hSq (show atI _ 0=some (.bl D.1) from rfl) ?_
   symm
   have h36:=e6 _ _ hlk.symm (e15 _ _ h3)
   have hd6:=e6 _ _ hll.symm (e15 _ _ h7)
   have hq3:=((h4.fz fz16).undo hst hK1.vs hPv).2.2
   refine⟨d,p,kd,dl,nv,.ref vl,S.2,kvs,.ref ta,D,!D.1,by rw[show decide (V.bl D.1=V.bl (decide (V.str ("undo":Str)=V.str ("redo":Str)))) = !D.1 by rw[show decide (V.str ("undo":Str)=V.str ("redo":Str))=false by decide +kernel];cases D.1<;>simp];rfl,h16,h36,hO.ne,by have:=h4.len;omega,hI6,hq3,λH7 v7 kp7 fz7 hv7 h17 h37=>?_⟩
   have hd7:=kp7 _ _ (by simp[hld',hlk']) hd6
   have hs7:=kp7 _ _ (by simp[hld,hlk]) hs6
   have h47:=kp7 _ _ (by simp[hq4d,hq4k]) h46
   symm
   refine Eh h47 (v:=.str "undone") (by rfl) ?_
   symm
   refine Fo hd7 (by omega) λH8 e8 hd8=>?_
   obtain⟨hq1,hq2,_⟩:=(h4.fz fz16).undo hst hK1.vs hv7
   rw[hq2] at h17
   have h18:=e8 _ _ hld'.symm h17
   have h38:=e8 _ _ hlk'.symm h37
   have hs8:=e8 _ _ hll hs7
   have fz68:=fz7.trans (e8.fzL hd7)
   have fz18:=fz16.trans fz68
   have kpA:∀ b o,b≠dl->b≠d->b≠kd->b≠vl->H1 b=some o->H8 b=some o:=λb o q1 q2 q3 q4 q=>e8 _ _ q4 (kp7 _ _ (by simp[q2,q3]) (e6 _ _ q1 (e15 _ _ q)))
   obtain⟨dx,nv',w,pvs,uvs,g1,g2,g3,g4,g5,g6,g7⟩:=hK1.ex
   symm
   rw[show decide (V.non=V.non)=true from A0S rfl]
   refine k [p,pl,ul,d,kd,dl,vl] H8 (λb hb=>.inl hb) (λb o hb q=>?_) (fz1.trans fz18) ⟨pl,ul,kd,dl,vl,S0,ds',us++[D],pa',un++[S],rfl,⟨⟨⟨nv,_,_,_,h18,h2.nm_fz fz18,h38,hq1.fz fz68,hs8,IsL.fz fz18 _ _ (Gg _) hL0,hd8,by rw[List.map_append];exact(IsL.fz fz18 _ _ (Gg _) h8).append (.one (Is.fz fz68 _ _ (Jy _) hI6))⟩,hK1.vs,hO.ne,hO.nv⟩,hK1.of fz18 (λo q=>kpA _ o (λz=>?_) (λz=>?_) (λz=>?_) (λz=>?_) q) (λo q=>kpA _ o hS.n1.symm (λz=>?_) (λz=>?_) hS.n3.symm q) (λo q=>kpA _ o hS.n2.symm (λz=>?_) (λz=>?_) hS.n4.symm q),hH,.snoc hst hS.fu,hS.n1,hS.n2,hS.n3,hS.n4⟩,by rw[List.length_append];simp at hdl ⊢;omega⟩
   . obtain⟨q1,q2,q3,q4,q5,q6,q7⟩:=aa8 hb
     exact kpA _ _ q6 q4 q5 q7 (kp1 _ _ q1 q2 q3 q)
   . rw[z,h5] at g1;cases g1
   . rw[z,h1] at g1;cases g1
   . rw[z,h3] at g1;cases g1
   . rw[z,h7] at g1;cases g1
   . rw[z,h1] at g4;cases g4
   . rw[z,h3] at g4;cases g4
   . rw[z,h1] at g6;cases g6
   rw[z,h3] at g6;cases g6
 refine⟨p,pl,ul,ns,S,pa,un,"redo",.non,.non,rfl,hS.kp,by omega,by omega,.inr (.inr (.inr (.inl ⟨rfl,λhp0 u H1 e1 hu1=>?_,λS0 pa' hpa H1 kp1 fz1 hK1=>?_⟩)))⟩
 . have hd0:us=[]:=by
    rcases hS.fu.back with q | ⟨_,_,_,_,_,q,_⟩
    . exact q.1
    rw[hp0] at q
    simp at q
   have hy0:zs=[]:=by
    rw[hd0] at h8
    exact Jb h8
   symm
   refine B7 (Aa nofun) λq2 H2 hq2 e2 h2'=>?_
   symm
   refine B7 (Aa nofun) λq3 H3 hq3 e3 h3'=>?_
   symm
   rw[show decide (V.str ("redo":Str)=V.str ("redo":Str))=true from A0S rfl]
   refine Eh h3' (v:=.int (-1)) (by rfl) ?_
   refine Qg (SqL.of (e3 _ _ h2')) (.inr rfl) λq4 H4 hq4 e4 h4'=>?_
   replace h4':H4 q4=some (.lst [.str "undone",.str "done"]):=h4'
   have e14:=e2.trans (e3.trans e4)
   have e04:=e1.trans e14
   have h14:=e04 _ _ h1
   symm
   refine Eh h4' (v:=.str "undone") (by rfl) ?_
   symm
   refine B7 (Aa nofun) λq5 H5 hq5 e5 h5'=>?_
   refine W0 (SqL.of (e5 _ _ (e04 _ _ h7))) (SqL.of h5') ?_
   rw[hy0,List.isEmpty_nil]
   symm
   refine Az (Aa nofun) λt6 H6 ht6 e6 h6'=>?_
   refine R6 (Is.mono (e14.trans (e5.trans e6)) _ _ hu1) (Is.of_tup (SqT.of h6') (.one Dp)) Hs Hs ?_
   rw[show PyData.eqv (.tuple [.str "more"]) (.tuple [.str "more"])=true by simp[PyData.eqv,PyData.eqvAll]]
   exact k1 _ (e04.trans (e5.trans e6))
 obtain⟨D,ds',hds,hH,hst⟩:∃ D ds',us=ds'++[D]/\Fut S0 ds' pa'/\Step S D S0:=by
  rcases hS.fu.back with q | ⟨S1,D,ds',ss',q1,q2,q3,q4⟩
  . rw[q.2] at hpa
    simp at hpa
  rw[q2] at hpa
  obtain⟨e1,e2⟩:=List.append_inj' hpa rfl
  injection e2 with e2 _
  subst e1 e2
  exact⟨D,ds',q1,q3,q4⟩
 have hO:=az3 hS kp1 fz1
 clear h1 h2 h3 h4 h5 h6 h7 h8
 obtain⟨nv,kvs,ys,zs,h1,h2,h3,h4,h5,h6,h7,h8⟩:=hO.ex
 rw[hds,A0G] at h8
 obtain⟨us',dv,rfl,hL0,hI0⟩:=Mb h8
 have hyl:us'.length=ds'.length:=by rw[<- IsL.length hL0,A00]
 have hzl:=IsL.length h6
 rw[A00] at hzl
 have hdl:=congrArg List.length hds
 rw[A0H] at hdl
 have hld:vl≠d:=λq=>by rw[q,h1] at h7;cases h7
 have hlk:vl≠kd:=λq=>by rw[q,h3] at h7;cases h7
 have hld':dl≠d:=λq=>by rw[q,h1] at h5;cases h5
 have hlk':dl≠kd:=λq=>by rw[q,h3] at h5;cases h5
 have hll:vl≠dl:=hO.nv.symm
 symm
 refine B7 (Aa nofun) λq2 H2 hq2 e2 h2'=>?_
 symm
 refine B7 (Aa nofun) λq3 H3 hq3 e3 h3'=>?_
 symm
 rw[show decide (V.str ("redo":Str)=V.str ("redo":Str))=true from A0S rfl]
 refine Eh h3' (v:=.int (-1)) (by rfl) ?_
 refine Qg (SqL.of (e3 _ _ h2')) (.inr rfl) λq4 H4 hq4 e4 h4'=>?_
 replace h4':H4 q4=some (.lst [.str "undone",.str "done"]):=h4'
 have e14:=e2.trans (e3.trans e4)
 have h14:=e14 _ _ h1
 symm
 refine Eh h4' (v:=.str "undone") (by rfl) ?_
 symm
 refine B7 (Aa nofun) λq5 H5 hq5 e5 h5'=>?_
 have e15:=e14.trans e5
 have hs5:=e15 _ _ h7
 refine W0 (SqL.of hs5) (SqL.of h5') ?_
 rw[show(us'++[dv]).isEmpty=false by simp]
 have h15:=e15 _ _ h1
 have h45:=e5 _ _ h4'
 symm
 refine Eh h45 (v:=.str "undone") (by rfl) ?_
 symm
 refine Sj hs5 λH6 e6 hs6=>?_
 have h16:=e6 _ _ hld.symm h15
 have hq4s:q4≠vl:=(ne_of_none (e3 _ _ (e2 _ _ h7)) hq4).symm
 have hq4d:q4≠d:=(ne_of_none (e3 _ _ (e2 _ _ h1)) hq4).symm
 have hq4k:q4≠kd:=(ne_of_none (e3 _ _ (e2 _ _ h3)) hq4).symm
 have hq4t:q4≠dl:=(ne_of_none (e3 _ _ (e2 _ _ h5)) hq4).symm
 have h46:=e6 _ _ hq4s h45
 have fz16:Fz H1 H6:=e15.fz.trans (e6.fzL hs5)
 have hI6:=Is.fz fz16 _ _ (Jy _) hI0
 obtain⟨ta,tv,rfl,hSq,hPv⟩:=Us hI6
 symm
 refine Ej hSq (show atI _ 0=some (.bl D.1) from rfl) ?_
 symm
 have h36:=e6 _ _ hlk.symm (e15 _ _ h3)
 have hd6:=e6 _ _ hll.symm (e15 _ _ h5)
 have hq3:=((h4.fz fz16).redo hst hO.vs hPv).2.2
 refine⟨d,p,kd,dl,nv,.ref vl,S.2,kvs,.ref ta,D,D.1,by rw[show decide (V.bl D.1=V.bl (decide (V.str ("redo":Str)=V.str ("redo":Str))))=D.1 by rw[decide_eq_true (rfl:V.str ("redo":Str)=V.str ("redo":Str))];cases D.1<;>simp];rfl,h16,h36,hO.ne,by have:=h4.len;omega,hI6,hq3,λH7 v7 kp7 fz7 hv7 h17 h37=>?_⟩
 have hd7:=kp7 _ _ (by simp[hld',hlk']) hd6
 have hs7:=kp7 _ _ (by simp[hld,hlk]) hs6
 have h47:=kp7 _ _ (by simp[hq4d,hq4k]) h46
 symm
 refine Eh h47 (v:=.str "done") (by rfl) ?_
 symm
 refine Fo hd7 (by omega) λH8 e8 hd8=>?_
 obtain⟨hq1,hq2,_⟩:=(h4.fz fz16).redo hst hO.vs hv7
 rw[hq2] at h17
 have h18:=e8 _ _ hld'.symm h17
 have h38:=e8 _ _ hlk'.symm h37
 have hs8:=e8 _ _ hll hs7
 have fz68:=fz7.trans (e8.fzL hd7)
 have fz18:=fz16.trans fz68
 have kpA:∀ b o,b≠vl->b≠d->b≠kd->b≠dl->H1 b=some o->H8 b=some o:=λb o q1 q2 q3 q4 q=>e8 _ _ q4 (kp7 _ _ (by simp[q2,q3]) (e6 _ _ q1 (e15 _ _ q)))
 obtain⟨dx,nv',w,pvs,uvs,g1,g2,g3,g4,g5,g6,g7⟩:=hK1.ex
 symm
 rw[show decide (V.non=V.non)=true from A0S rfl]
 refine k [p,pl,ul,d,kd,dl,vl] H8 (λb hb=>.inl hb) (λb o hb q=>?_) (fz1.trans fz18) ⟨pl,ul,kd,dl,vl,S0,ds++[D],ds',pa++[S],pa',rfl,⟨⟨⟨nv,_,_,_,h18,h2.nm_fz fz18,h38,hq1.fz fz68,hd8,by rw[List.map_append];exact(IsL.fz fz18 _ _ (Gg _) h6).append (.one (Is.fz fz68 _ _ (Jy _) hI6)),hs8,IsL.fz fz18 _ _ (Gg _) hL0⟩,hK1.vs,hO.ne,hO.nv⟩,hK1.of fz18 (λo q=>kpA _ o (λz=>?_) (λz=>?_) (λz=>?_) (λz=>?_) q) (λo q=>kpA _ o hS.n3.symm (λz=>?_) (λz=>?_) hS.n1.symm q) (λo q=>kpA _ o hS.n4.symm (λz=>?_) (λz=>?_) hS.n2.symm q),.snoc hS.hi hst,hH,hS.n1,hS.n2,hS.n3,hS.n4⟩,by rw[List.length_append];simp at hdl ⊢;omega⟩
 . obtain⟨q1,q2,q3,q4,q5,q6,q7⟩:=aa8 hb
   exact kpA _ _ q7 q4 q5 q6 (kp1 _ _ q1 q2 q3 q)
 . rw[z,h7] at g1;cases g1
 . rw[z,h1] at g1;cases g1
 . rw[z,h3] at g1;cases g1
 . rw[z,h5] at g1;cases g1
 . rw[z,h1] at g4;cases g4
 . rw[z,h3] at g4;cases g4
 . rw[z,h1] at g6;cases g6
 rw[z,h3] at g6;cases g6
theorem Ox {K:PySem.W.Frag}{H:Hp}{Q:VK}{d:PyData}{x:V}(h:Is K H d x)(s:Sh d)(k:Q (.str d.shown) H):W3 K [x] H Q:=a63 h s.sh s.fits s.deep k
theorem aE3 {js:List Nat}(h:∀ m∈js,m<=4000000)(hl:js.length<=1000):Sh (jsD js):=by
 have:=aD9 h hl
 rwa[show nuD js=jsD js by simp[nuD,jsD,Function.comp_def]] at this
theorem av2 {i:Int}(h:i.natAbs<=4000000):Sh (.tuple [.str "saying",.int i]):=by
 have hlog:i.natAbs.log2<30:=by
  rcases Nat.eq_zero_or_pos i.natAbs with q | h0
  . rw[q];decide
  exact(Nat.log2_lt (by omega)).mpr (by omega)
 have hlen:=A4P (i:=i) (by omega)
 have hok:PyData.strOk ("saying":Str)=true:=by decide +kernel
 refine⟨rfl,?_,?_,?_⟩
 . simp only[PyData.showable,PyData.showableAll,Bool.and_true,Bool.true_and,decide_eq_true_eq]
   omega
 . have g:=PyData.shown_le 13 ∅ (.tuple [.str "saying",.int i]) (PyData.leavesShort_of_canLay0 13 _ (by simp only[PyData.canLay0,PyData.canLayAll0,hok,Bool.and_true]) (by simp only[PyData.intsShort,PyData.intsShortAll,Bool.and_true,Bool.true_and,decide_eq_true_eq];exact hlen))
   have hw:(PyData.tuple [.str "saying",.int i]).weight<=1000:=by
    have:("saying":Str).cps.size=6:=by decide +kernel
    simp only[PyData.weight,PyData.weightAll,this]
    split<;>omega
   rw[A14]
   omega
 simp only[PyData.depth,PyData.depthAll]
 decide
theorem We {K:PySem.W.Frag}{H:Hp}:∀ es:List (Nat×(Str×Str)),IsL K H (es.map ((λj:Nat=>PyData.int (j:Int))∘(·.1))) (es.map (V.int∘λe=>((e.1:Nat):Int)))
 | []=>.nil
 | e :: es=>.cons Gy (We es)
def Gv (C:Addr)(K:PySem.W.Frag):Sp:=λvs H Q _=>∃ d p A ns c,vs=[.ref d]/\Sd K C H A d p ns c/\c<800/\∀ H',Same H H'->Q (.bl true) H'
theorem Pd {f:Addr}{fd:FuncData}(F:Fun K "_law_looked" "_law_looked" Da f fd)(T:Fp mg){C_Keeper:Addr}(k_Keeper:Aq K C_Keeper)(Ax:Fnd P w K mg base 5 "_law_told_by" ["_law_keeper","_law_word","_law_one","_law_other"] (C9 C_Keeper K))(Co:Fnd P w K mg base 1 "_law_half_of" ["_law_side_here"] (Eg K))(Fk:Mtd P w K mg base 1 C_Keeper "numbers" ["self"] (Eo C_Keeper K))(Ah:Mtd P w K mg base 1 C_Keeper "half" ["self"] (B8 C_Keeper K)):FnOk P w K mg base CX0 6 f fd ["_law_side_here"] (Gv C_Keeper K):=by
 refine F.ok Fc (λvs H Q E h=>?_) (λcdv A outer s H vs Q E hr h=>?_)
 . obtain⟨d,p,A,ns,c,rfl,_⟩:=h
   rfl
 obtain⟨d,p,A,ns,c,rfl,⟨pl,ul,kd,dl,vl,S,ds,us,pa,un,rfl,hS,hc⟩,hc8,k⟩:=h
 have hla:=hS.hi.len
 have hlu:=hS.fu.len
 have hu:=Cc hr
 have hq:=Cd hr
 obtain⟨nv,kvs,ys,zs,h1,h2,h3,h4,h5,h6,h7,h8⟩:=hS.o.ex
 obtain⟨dx,nv',w,pv0,uv0,g1,g2,g3⟩:=hS.kp.at.ex
 have hle:=hS.o.vs.le
 with_reducible refine⟨_,(A5 (Al (i:=1) Fc.nd ⋯ (by eq_refl) (Af (A8 (K:=K) hu) (pv 0) Ab (by ac_rfl)))
  (A5 (Bc (PW.pt (Rx (Ai (Lk (K:=K) hq) (Ag (Ca (K:=K) hq) ⋯ T.b_repr PyProof.Rows.Boot.«repr» (A3 (Ln (C:=C_Keeper) (pv 1) k_Keeper.cl Fk (hr.mono ∅)) A4)) (Ag (Ca (K:=K) hq) ⋯ T.b_repr PyProof.Rows.Boot.«repr» (A3 (Ay (Bq (K:=K)) ⋯ T.b_tuple PyProof.Rows.Boot.«tuple» (A3 (Ag (Nr ⋯) ⋯ T.b_sorted PyProof.Rows.Boot.«sorted» (A3 (Af (A8 (K:=K) hu) (pv 0) Ab (by ac_rfl)) A4)) A4)) A4)) (An _)) (Od (Ai (Lk (K:=K) hq) (Ag (Ca (K:=K) hq) ⋯ T.b_repr PyProof.Rows.Boot.«repr» (A3 (Ln (C:=C_Keeper) (pv 1) k_Keeper.cl Ah (hr.mono ∅)) A4)) (Ag (Ca (K:=K) hq) ⋯ T.b_repr PyProof.Rows.Boot.«repr» (A3 (Bo Co (hr.mono ∅) ⋯ (A3 (pv 0) A4)) A4)) (An _))))) (A7 (Ap Ij)) Am)
  (A5 (Hi A1C ⋯ (Yf ⋯ T.b_range (A3 (aa4 Vr A9) (A3 (B3 (Aw (K:=K)) (Af (A8 (K:=K) hu) (pv 0) Ab (by ac_rfl)) A9) A4))) (B4 (i:=2) Fc.nd ⋯ (by eq_refl))
  (A5 (Al (i:=3) Fc.nd ⋯ (by eq_refl) (ac4 hu (Af (A8 (K:=K) hu) (pv 0) Ab (by ac_rfl)) (pv 2) (B6 (A3 Ab (A3 (pv 2) A4))) (by with_unfolding_all exact⟨rfl,rfl,rfl,rfl⟩)))
  (A7 (Bc (Ai (Lk (K:=K) hq) (Ag (Ca (K:=K) hq) ⋯ T.b_repr PyProof.Rows.Boot.«repr» (A3 (Bo Ax (hr.mono ∅) ⋯ (A3 (pv 1) (A3 Ab (A3 (pv 2) (A3 Ih A4))))) A4)) (Ag (Ca (K:=K) hq) ⋯ T.b_repr PyProof.Rows.Boot.«repr» (A3 (pv 3) A4)) (An _)) (A7 (Ap Ij)) Am))))
  (A7 (Ap Ij))))),?_⟩
 symm
 refine Jm g1 (by rfl) ?_
 symm
 refine⟨p,ns,S.1,S.2,rfl,hS.kp.at,λu1 H1 e1 hu1=>?_⟩
 have hsj:Sh (jsD (S.1.map (·.1))):=aE3 (λm hm=>by obtain⟨e,he,rfl⟩:=A0I.mp hm;have:=hS.o.vs.lt e he;omega) (by rw[A00];omega)
 symm
 refine Ox hu1 hsj ?_
 symm
 obtain⟨is,q1,q2,q3⟩:=hS.o.is h4
 refine Wg (e1 _ _ h3) q1 q2 λl ms H2 hl2 e2 hl2' p1 p2=>?_
 have:=q3 ms p1 p2
 subst this
 symm
 refine Fs (SqL.of hl2') λt3 H3 ht3 e3 h3'=>?_
 symm
 have e03:=(e1.trans e2).trans e3
 refine Ox (d:=jsD (S.1.map (·.1))) (Is.of_tup (SqT.of h3') (by rw[A1K,A1K];exact We S.1)) hsj ?_
 symm
 have hnm:NmP (S.1.map (·.2)):=λq hq=>by
  obtain⟨e,he,rfl⟩:=A0I.mp hq
  have:=hS.kp.vs.mem e he
  exact⟨hS.kp.nd.2 _ this.1,hS.kp.nd.2 _ this.2⟩
 have hsh:Sh (hfD ns (S.1.map (·.2))):=(Z7 hS.kp.nd.2 hnm (A0L hS.kp.few ∅) (by rw[A00];omega)).sh rfl
 refine Jm (e03 _ _ g1) (by rfl) ?_
 symm
 refine⟨p,ns,S.1,S.2,rfl,(hS.kp.same e03).at,λu4 H4 e4 hu4=>?_⟩
 symm
 refine Ox hu4 hsh ?_
 symm
 have e04:=e03.trans e4
 refine⟨d,p,kd,dl,vl,ns,S,ds,us,rfl,hS.o.same e04,λu5 H5 e5 hu5=>?_⟩
 symm
 refine Ox hu5 hsh ?_
 have e05:=e04.trans e5
 have h15:=e05 _ _ h1
 symm
 refine ar7 (by omega) ?_
 refine Sv Hg (λi σ H6=>∃ x2 x3,σ=[some (.ref d),some (.ref p),x2,x3]/\Same H H6) ⟨_,_,rfl,e05⟩ (λ_ _ _ _=>trivial) (λi x σ H6 hx hi hP=>?_) (fun σ H6 hP=>?_)
 . obtain⟨x2,x3,rfl,e6⟩:=hP
   obtain⟨rfl,hi2⟩:=Mf hx
   have h16:=e6 _ _ h1
   symm
   have h36:=e6 _ _ h3
   have hz:((-1:Int)+(i:Int)).natAbs<=4000000:=by omega
   have hnd:(S.1.map (·.1)).Nodup:=hS.o.vs.so.imp λq=>A0J q
   refine ad9 h36 ?_
   symm
   refine Az (Aa nofun) λt7 H7 ht7 e7 h7=>?_
   have e07:=e6.trans e7
   have hd7:Is K H7 (.tuple [.str "saying",.int (-1+(i:Int))]) (.ref t7):=Is.of_tup (SqT.of h7) (.cons Dp (.one Gy))
   by_cases hin:∃ e∈S.1,((e.1:Nat):Int) = -1+(i:Int)
   . obtain⟨e,he,hei⟩:=hin
     obtain⟨v,hv1,hv2⟩:=h4.vs e he
     rw[hei] at hv1
     refine⟨some v,by rw[<- hv1];exact DGet.k (k:=Sum.inl _) (e7 _ _ h36),?_⟩
     symm
     refine⟨p,pl,ul,ns,S,pa,un,"saying",.int (-1+(i:Int)),.non,rfl,hS.kp.same e07,by omega,by omega,.inr (.inr (.inr (.inr (.inl ⟨rfl,_,rfl,λe' he' hi' u hu=>?_,λhno=>absurd hei (hno e he)⟩))))⟩
     have hee:e'=e:=by
      have h1':e'.1=e.1:=by omega
      obtain⟨a,ha⟩:=List.getElem?_of_mem he
      obtain⟨b,hb⟩:=List.getElem?_of_mem he'
      by_cases hab:a=b
      . subst hab
        exact A0R (hb.symm.trans ha)
      exact absurd h1'.symm (ax2 hnd (i:=a) (j:=b) (by rw[A0A,ha];rfl) (by rw[A0A,hb];rfl) hab)
     subst hee
     have hsp:Sh (prD e'.2):=by
      have hm:=hS.kp.vs.mem e' he'
      obtain⟨a,b,c⟩:=M9 (p:=e'.2) (hS.kp.nd.2 _ hm.1) (hS.kp.nd.2 _ hm.2)
      exact Fine.sh ⟨a,by omega,by omega⟩ rfl
     symm
     refine Ox hu hsp ?_
     symm
     refine Ox (Is.mono e07 _ _ hv2) hsp ?_
     symm
     exact⟨_,_,rfl,e07⟩
   have hno:∀ e∈S.1,((e.1:Nat):Int) ≠ -1+(i:Int):=λe he q=>hin ⟨e,he,q⟩
   refine⟨none,by rw[<- h4.no hno];exact DGet.k (k:=Sum.inl _) (e7 _ _ h36),?_⟩
   symm
   refine⟨p,pl,ul,ns,S,pa,un,"saying",.int (-1+(i:Int)),.non,rfl,hS.kp.same e07,by omega,by omega,.inr (.inr (.inr (.inr (.inl ⟨rfl,_,rfl,λe' he' hi'=>absurd hi' (hno e' he'),λ_ u H8 e8 hu8=>?_⟩))))⟩
   symm
   refine Ox hu8 (av2 hz) ?_
   symm
   refine Ox (Is.mono e8 _ _ hd7) (av2 hz) ?_
   symm
   exact⟨_,_,rfl,e07.trans e8⟩
 obtain⟨x2,x3,rfl,e6⟩:=hP
 symm
 exact k _ e6
def AftF (K:PySem.W.Frag)(C:Addr)(H:Hp)(f l:Addr)(A:List Addr)(d p:Addr)(ns:List Str)(c:Nat)(Q:VK):Prop:=∀ A' H',Ow A A' H->Zm (f :: A) H H'->Fz H H'->Feed H' f l->Sd K C H' A' d p ns c->Q (.bl true) H'
structure FdA (H:Hp)(f l:Addr)(A:List Addr):Prop where
 fd:Feed H f l
 nf:f∉A
 nl:l∉A
theorem FdA.same {H H':Hp}{f l:Addr}{A:List Addr}(h:FdA H f l A)(e:Same H H'):FdA H' f l A:=⟨h.fd.same e,h.nf,h.nl⟩
theorem Sd.draw {K:PySem.W.Frag}{C:Addr}{H H':Hp}{f l:Addr}{A:List Addr}{d p:Addr}{ns:List Str}{c:Nat}(h:Sd K C H A d p ns c)(g:FdA H f l A)(e:ExtBut f H H'):Sd K C H' A d p ns c:=h.of (g.fd.fz e) λb hb o q=>e _ _ (λz=>g.nf (z ▸ hb)) q
theorem AftF.aft {K:PySem.W.Frag}{C:Addr}{H H1:Hp}{f l:Addr}{A:List Addr}{d p:Addr}{ns:List Str}{c:Nat}{Q:VK}(h:AftF K C H f l A d p ns c Q)(g:FdA H1 f l A)(hS:∀ b∈A,H b≠none)(e:∀ b o,b≠f->H b=some o->H1 b=some o)(fz:Fz H H1):Aft K C H1 A d p ns c Q:=λA' H2 ow kp fz2 hs=>by
 have hfd:Feed H2 f l:=by
  obtain⟨a,t,u,cs,h1,h2,h3,h4⟩:=g.fd
  exact⟨a,t,u,cs,kp _ _ g.nf h1,kp _ _ g.nl h2,h3,h4⟩
 refine h A' H2 (λb hb=>?_) (λb o hb q=>?_) (fz.trans fz2) hfd hs
 . rcases ow b hb with q | q
   . exact .inl q
   by_cases hA:b∈A
   . exact .inl hA
   right
   cases z:H b with
   | none=>rfl
   | some o=>
     by_cases hf:b=f
     . obtain⟨a,t,u,cs,h1,_⟩:=g.fd
       rw[hf,h1] at q
       cases q
     rw[e b o hf z] at q
     cases q
 simp only[List.mem_cons,not_or] at hb
 exact kp _ _ hb.2 (e _ _ hb.1 q)
def Io (C:Addr)(K:PySem.W.Frag):Sp:=λvs H Q _=>∃ f l d p A ns c,vs=[.ref f,.ref d]/\FdA H f l A/\Sd K C H A d p ns c/\c<700/\AftF K C H f l A d p ns (c+1) Q
theorem Tj {f:Addr}{fd:FuncData}(F:Fun K "_law_deed" "_law_deed" Ev f fd)(T:Fp mg){C_Keeper:Addr}(k_Keeper:Aq K C_Keeper)(Ak:Fnd P w K mg base 1 "_law_draw" ["_law_feed_here","_law_many"] (Fg K))(Ld:Fnd P w K mg base 6 "_law_say" ["_law_side_here","_law_name","_law_other"] (Jx C_Keeper K))(Js:Fnd P w K mg base 6 "_law_take" ["_law_side_here","_law_number"] (J7 C_Keeper K))(K0:Fnd P w K mg base 6 "_law_back" ["_law_side_here","_law_word"] (Ik C_Keeper K)):FnOk P w K mg base CX0 7 f fd ["_law_feed_here","_law_side_here"] (Io C_Keeper K):=by
 refine F.ok J4 (λvs H Q E h=>?_) (λcdv A outer s H vs Q E hr h=>?_)
 . obtain⟨f,l,d,p,A,ns,c,rfl,_⟩:=h
   rfl
 obtain⟨f,l,d,p,A,ns,c,rfl,hF,hSd,hc,k⟩:=h
 have hu:=Cc hr
 have hq:=Cd hr
 have hSd0:=hSd
 obtain⟨pl,ul,kd,dl,vl,S,ds,us,pa,un,rfl,hS,hcc⟩:=hSd
 have hla:=hS.hi.len
 obtain⟨nv,kvs,ys,zs,h1,h2,h3,h4,h5,h6,h7,h8⟩:=hS.o.ex
 with_reducible refine⟨_,(A5 (Al (i:=2) J4.nd ⋯ (by eq_refl) (B3 (Aw (K:=K)) (Ay (Jf (K:=K)) ⋯ T.b_list PyProof.Rows.Boot.«list» (A3 (Af (A8 (K:=K) hu) (pv 1) Ab (by ac_rfl)) A4)) (B3 Fy (Bz (A3 Ab A4)) (Ay Ip ⋯ T.b_int PyProof.Rows.Boot.«int» (A3 (aG0 (C3 (B5 (K:=K) hq) (Bo Ak (hr.mono ∅) ⋯ (A3 (pv 0) (A3 A9 A4))) A9 (An _)) (Vd (C3 (B5 (K:=K) hq) (Af (A8 (K:=K) hu) (pv 1) Ab (by ac_rfl)) (B6 A4) (An _)))) A4)))))
  (A5 (Al (i:=3) J4.nd ⋯ (by eq_refl) (Bo Ak (hr.mono ∅) ⋯ (A3 (pv 0) (A3 A9 A4))))
  (A5 (Bc (Ai ad7 (pv 3) A9 (An _)) (A7 (Ap (Bo Ld (hr.mono ∅) ⋯ (A3 (pv 1) (A3 (Af (A8 (K:=K) hu) (pv 2) (Bo Ak (hr.mono ∅) ⋯ (A3 (pv 0) (A3 (Ag (C7 (K:=K)) ⋯ T.b_len PyProof.Rows.Boot.«len» (A3 (pv 2) A4)) A4))) (by ac_rfl)) (A3 (Af (A8 (K:=K) hu) (pv 2) (Bo Ak (hr.mono ∅) ⋯ (A3 (pv 0) (A3 (Ag (C7 (K:=K)) ⋯ T.b_len PyProof.Rows.Boot.«len» (A3 (pv 2) A4)) A4))) (by ac_rfl)) A4)))))) Am)
  (A5 (Bc (Ai ad7 (pv 3) A9 (An _)) (A7 (Ap (Bo Js (hr.mono ∅) ⋯ (A3 (pv 1) (A3 (B3 (Aw (K:=K)) (B3 Y3 (Bo Ak (hr.mono ∅) ⋯ (A3 (pv 0) (A3 (B3 (Aw (K:=K)) (Af (A8 (K:=K) hu) (pv 1) Ab (by ac_rfl)) A9) A4))) A9) (B3 Fy (B3 ah3 A9 A9) (Ay Ip ⋯ T.b_int PyProof.Rows.Boot.«int» (A3 (C3 (B5 (K:=K) hq) (Bo Ak (hr.mono ∅) ⋯ (A3 (pv 0) (A3 A9 A4))) A9 (An _)) A4)))) A4))))) Am)
  (A7 (Ap (Bo K0 (hr.mono ∅) ⋯ (A3 (pv 1) (A3 (Af (A8 (K:=K) hu) (Bz (A3 Ab (A3 Ab (A3 Ab A4)))) (B3 Y3 (pv 3) A9) (by ac_rfl)) A4))))))))),?_⟩
 obtain⟨na,rfl,hna⟩:=h2.nm
 have hNm:=hS.kp.nd
 have h10:=hS.kp.few
 with_reducible refine Ws (fun σ' H'=>∃(q:Addr) (nms:List Str),σ'=[some (.ref f),some (.ref d),some (.ref q),none]/\ExtBut f H H'/\Feed H' f l/\H' q=some (.lst (nms.map V.str))/\(1<=nms.length/\nms.length<=11)/\∀ z∈nms,PyData.strOk z=true) (λN hN'=>?_) (fun σ1 H6 hM=>?_)
 . walk_at "rq"
   refine Uk (.inr hna) λq1 H1 hq1 e1 h1'=>?_
   walk_at "rq"
   refine B7 (Aa nofun) λq2 H2 hq2 e2 h2'=>?_
   have e02:=e1.trans e2
   have hF2:=hF.same e02
   walk_at "rq"
   refine⟨f,l,_,rfl,hF2.fd,by omega,by omega,λc3 H3 h30 h31 e3 hF3=>?_⟩
   have h13:=e3 _ _ (hF2.fd.lst (e2 _ _ h1')) (e2 _ _ h1')
   have h23:=e3 _ _ (hF2.fd.lst h2') h2'
   have hd3:=e3 _ _ (λz=>hF.nf (by simp[<- z])) (e02 _ _ h1)
   have fin:∀(b:Bool) q4 H4,(b=false->ns≠[])->Same H3 H4->∀ {M:List Str},M=ns++List.replicate (if b=true then 1 else 0) ("zzz":Str)->H4 q4=some (.lst (M.map V.str))->∃(q:Addr) (nms:List Str),[some (V.ref f),some (V.ref d),some (V.ref q4),none]=[some (V.ref f),some (V.ref d),some (.ref q),none]/\ExtBut f H H4/\Feed H4 f l/\H4 q=some (.lst (nms.map V.str))/\(1<=nms.length/\nms.length<=11)/\∀ z∈nms,PyData.strOk z=true:=λb q4 H4 hb e4 M hM h4=>by
    refine ⟨q4,M,rfl,λb o hb q=>e4 _ _ (e3 _ _ hb (e02 _ _ q)),hF3.same e4,h4,?_,λz hz=>?_⟩
    . rw[hM,A0H,A1N]
      cases b with
      | true=>simp;omega
      | false=>
        have:=List.length_pos_iff.mpr (hb rfl)
        simp
        omega
    rw[hM] at hz
    rcases A0B.mp hz with hz | hz
    . exact(Sa (hNm.2 z hz)).1
    rw[List.eq_of_mem_replicate hz]
    decide +kernel
   walk_at "rq"
   refine Fh (λhc=>?_) (λhc=>?_)
   . walk_at "rq"
     refine Um h23 (by omega) (by rw[A14];decide) λq4 H4 hq4 e4 h4'=>?_
     refine Qa (e4 _ _ h13) h4' (Aa (by simp;omega)) λq5 H5 hq5 e5 h5'=>?_
     walk_at "rq"
     refine hN' _ _ (fin true q5 H5 (λq=>by cases q) (e4.trans e5) rfl ?_)
     rw[h5',A0G]
     rfl
   walk_at "rq"
   refine Az (Aa nofun) λt4 H4 ht4 e4 h4'=>?_
   refine R6 (Is.of_tup (e4.seqT ((hF2.fd.fz e3).seq (e02.seqT hna))) (Qm ns)) (Is.of_tup (ds:=[]) (SqT.of h4') .nil) (an8 hNm.2 (by omega)).shaped (by rfl) ?_
   have hev:PyData.eqv (.tuple (ns.map PyData.str)) (.tuple [])=decide (ns=[]):=by cases ns<;>simp[PyData.eqv,PyData.eqvAll]
   rw[hev]
   walk_at "rq"
   refine Um (e4 _ _ h23) (by split<;>omega) (by rw[A14];split<;>decide) λq5 H5 hq5 e5 h5'=>?_
   refine Qa (e5 _ _ (e4 _ _ h13)) h5' (Aa (by simp;split<;>simp<;>omega)) λq6 H6 hq6 e6 h6'=>?_
   walk_at "rq"
   refine hN' _ _ (fin (decide (ns=[])) q6 H6 (λq z=>by rw[A0S z] at q;cases q) ((e4.trans e5).trans e6) rfl ?_)
   rw[h6',A0G]
   congr 2
   split<;>rfl
 obtain⟨q6,nms,rfl,e6,hF6,h6',hnl,hno⟩:=hM
 have hFA:FdA H6 f l _:=⟨hF6,hF.nf,hF.nl⟩
 have hSd6:=hSd0.draw hF e6
 have fz6:=hF.fd.fz e6
 have Po:∀ c:Int,0<=c->c<((nms.length:Nat):Int)->∃ z,PyData.strOk z=true/\atI (nms.map V.str) c=some (.str z):=λc h0 h1=>by
  obtain⟨j,rfl⟩:=A41 h0
  have hj:j<nms.length:=by omega
  exact⟨nms[j],hno _ (List.getElem_mem hj),C5 (by rw[A0A,A08 hj];rfl)⟩
 symm
 refine⟨f,l,_,rfl,hF6,by omega,by omega,λc7 H7 h70 h71 e7 hF7=>?_⟩
 have hSd7:=hSd6.draw hFA e7
 have hFA7:FdA H7 f l _:=⟨hF7,hF.nf,hF.nl⟩
 have h7q:=e7 _ _ (hF6.lst h6') h6'
 symm
 refine Fh (λhc=>?_) (λhc=>?_)
 . symm
   rw[A00]
   refine⟨f,l,_,rfl,hF7,by omega,by omega,λc8 H8 h80 h81 e8 hF8=>?_⟩
   have hSd8:=hSd7.draw hFA7 e8
   have hFA8:FdA H8 f l _:=⟨hF8,hF.nf,hF.nl⟩
   have h8q:=e8 _ _ (hF7.lst h7q) h7q
   obtain⟨x,hxo,hxa⟩:=Po c8 h80 h81
   refine Eh h8q hxa ?_
   symm
   rw[A00]
   refine⟨f,l,_,rfl,hF8,by omega,by omega,λc9 H9 h90 h91 e9 hF9=>?_⟩
   have hSd9:=hSd8.draw hFA8 e9
   have hFA9:FdA H9 f l _:=⟨hF9,hF.nf,hF.nl⟩
   have h9q:=e9 _ _ (hF8.lst h8q) h8q
   obtain⟨y,hyo,hya⟩:=Po c9 h90 h91
   refine Eh h9q hya ?_
   symm
   refine⟨d,p,_,ns,c,x,y,rfl,hSd9,by omega,hxo,hyo,?_⟩
   exact k.aft hFA9 hSd0.there (λb o hb q=>e9 _ _ hb (e8 _ _ hb (e7 _ _ hb (e6 _ _ hb q)))) (((fz6.trans (hF6.fz e7)).trans (hF7.fz e8)).trans (hF8.fz e9))
 symm
 refine Fh (λhc2=>?_) (λhc2=>?_)
 . have hd7:=e7 _ _ (λz=>hF.nf (by simp[<- z])) (e6 _ _ (λz=>hF.nf (by simp[<- z])) h1)
   symm
   refine⟨f,l,_,rfl,hF7,by omega,by omega,λc8 H8 h80 h81 e8 hF8=>?_⟩
   have hSd8:=hSd7.draw hFA7 e8
   have hFA8:FdA H8 f l _:=⟨hF8,hF.nf,hF.nl⟩
   symm
   refine⟨f,l,_,rfl,hF8,by omega,by omega,λc9 H9 h90 h91 e9 hF9=>?_⟩
   have hSd9:=hSd8.draw hFA8 e9
   have hFA9:FdA H9 f l _:=⟨hF9,hF.nf,hF.nl⟩
   symm
   refine⟨d,p,_,ns,c,_,rfl,hSd9,by omega,?_⟩
   exact k.aft hFA9 hSd0.there (λb o hb q=>e9 _ _ hb (e8 _ _ hb (e7 _ _ hb (e6 _ _ hb q)))) (((fz6.trans (hF6.fz e7)).trans (hF7.fz e8)).trans (hF8.fz e9))
 have hd7:=e7 _ _ (λz=>hF.nf (by simp[<- z])) (e6 _ _ (λz=>hF.nf (by simp[<- z])) h1)
 symm
 refine B7 (Aa nofun) λq8 H8 hq8 e8 h8=>?_
 symm
 obtain⟨w,hw,hwa⟩:∃ w:Str,(w = "undo" \/ w = "redo")/\atI [V.str "undo",V.str "undo",V.str "redo"] (c7-7)=some (.str w):=by
  have h0:¬ c7<5:=hc
  have h00:¬ c7<7:=hc2
  rcases(by omega:c7=7\/c7=8\/c7=9) with rfl | rfl | rfl
  . exact⟨"undo",.inl rfl,rfl⟩
  . exact⟨"undo",.inl rfl,rfl⟩
  exact⟨"redo",.inr rfl,rfl⟩
 refine Eh h8 hwa ?_
 symm
 refine⟨d,p,_,ns,c,w,rfl,hw,hSd7.same e8,by omega,?_⟩
 have ka:=k.aft (hFA7.same e8) hSd0.there (λb o hb q=>e8 _ _ (e7 _ _ hb (e6 _ _ hb q))) ((fz6.trans (hF6.fz e7)).trans e8.fz)
 exact λA' H' ow kp fz hs=>ka A' H' ow kp fz (hs.le (A20 _))
def spLaw (K:PySem.W.Frag):Sp:=λvs H Q _=>∃(a:Addr) (ns:List Int),vs=[.ref a]/\SqL K H a (ns.map V.int)/\ns.length<=63/\∀ H',Q (.bl true) H'
theorem FdA.ow {H H':Hp}{f l:Addr}{A A':List Addr}(h:FdA H f l A)(ow:Ow A A' H)(hF:Feed H' f l):FdA H' f l A':=by
 obtain⟨a,t,u,cs,h1,h2,_⟩:=h.fd
 refine⟨hF,λq=>?_,λq=>?_⟩
 . rcases ow _ q with z | z
   . exact h.nf z
   rw[h1] at z;cases z
 rcases ow _ q with z | z
 . exact h.nl z
 rw[h2] at z;cases z
abbrev HF:=List Str×List (Str×Str)
def hfX (q:HF):PyData:=hfD q.1 q.2
def heD (q:HF):PyData:=.tuple [hfX q,.str (hfX q).shown]
theorem aB1 (q:HF):frz (heD q)=true:=by simp[heD,hfX,frz,Oh,a49]
theorem a00 (hs:List HF):Oh (hs.map heD)=true:=Gh heD aB1 hs
def Hd (K:PySem.W.Frag)(H:Hp)(h:Addr)(c:Nat):Prop:=∃(hs:List HF) (ys:List V),H h=some (.lst ys)/\IsL K H (hs.map heD) ys/\(∀ q∈hs,Sh (hfX q))/\hs.length<=c
theorem Hd.of {K:PySem.W.Frag}{H H':Hp}{h:Addr}{c:Nat}(g:Hd K H h c)(f:Fz H H')(e:∀ o,H h=some o->H' h=some o):Hd K H' h c:=by
 obtain⟨hs,ys,h1,h2,h3,h4⟩:=g
 exact⟨hs,ys,e _ h1,IsL.fz f _ _ (a00 _) h2,h3,h4⟩
theorem Hd.le {K:PySem.W.Frag}{H:Hp}{h:Addr}{c c':Nat}(g:Hd K H h c)(hc:c<=c'):Hd K H h c':=by
 obtain⟨hs,ys,h1,h2,h3,h4⟩:=g
 exact⟨hs,ys,h1,h2,h3,A0L h4 hc⟩
theorem Hd.ex {K:PySem.W.Frag}{H:Hp}{h:Addr}{c:Nat}(g:Hd K H h c):∃ ys,H h=some (.lst ys):=by
 obtain⟨hs,ys,h1,_⟩:=g
 exact⟨ys,h1⟩
structure TwoS (K:PySem.W.Frag)(C:Addr)(H:Hp)(f l t:Addr)(tv:List V)(h d0 p0:Addr)(n0:List Str)(A0:List Addr)(d1 p1:Addr)(n1:List Str)(A1:List Addr)(c m:Nat):Prop where
 f0:FdA H f l A0
 f1:FdA H f l A1
 s0:Sd K C H A0 d0 p0 n0 c
 s1:Sd K C H A1 d1 p1 n1 c
 dj:∀ b∈A0,b∉A1
 t0:t∉A0
 t1:t∉A1
 h0:h∉A0
 h1:h∉A1
 tt:H t=some (.lst tv)
 hh:Hd K H h m
 th:t≠h
 lh:l≠h
theorem TwoS.swap {K:PySem.W.Frag}{C:Addr}{H:Hp}{f l t:Addr}{tv:List V}{h d0 p0:Addr}{n0:List Str}{A0:List Addr}{d1 p1:Addr}{n1:List Str}{A1:List Addr}{c m:Nat}(g:TwoS K C H f l t tv h d0 p0 n0 A0 d1 p1 n1 A1 c m):TwoS K C H f l t tv h d1 p1 n1 A1 d0 p0 n0 A0 c m:=
 ⟨g.f1,g.f0,g.s1,g.s0,λb h1 h0=>g.dj b h0 h1,g.t1,g.t0,g.h1,g.h0,g.tt,g.hh,g.th,g.lh⟩
theorem TwoS.same {K:PySem.W.Frag}{C:Addr}{H H':Hp}{f l t:Addr}{tv:List V}{h d0 p0:Addr}{n0:List Str}{A0:List Addr}{d1 p1:Addr}{n1:List Str}{A1:List Addr}{c m:Nat}(g:TwoS K C H f l t tv h d0 p0 n0 A0 d1 p1 n1 A1 c m)(e:Same H H'):TwoS K C H' f l t tv h d0 p0 n0 A0 d1 p1 n1 A1 c m:=
 ⟨g.f0.same e,g.f1.same e,g.s0.same e,g.s1.same e,g.dj,g.t0,g.t1,g.h0,g.h1,e _ _ g.tt,g.hh.of e.fz (e _),g.th,g.lh⟩
theorem TwoS.draw {K:PySem.W.Frag}{C:Addr}{H H':Hp}{f l t:Addr}{tv:List V}{h d0 p0:Addr}{n0:List Str}{A0:List Addr}{d1 p1:Addr}{n1:List Str}{A1:List Addr}{c m:Nat}(g:TwoS K C H f l t tv h d0 p0 n0 A0 d1 p1 n1 A1 c m)(e:ExtBut f H H')(hF:Feed H' f l):TwoS K C H' f l t tv h d0 p0 n0 A0 d1 p1 n1 A1 c m:=by
 obtain⟨ys,hy⟩:=g.hh.ex
 exact⟨⟨hF,g.f0.nf,g.f0.nl⟩,⟨hF,g.f1.nf,g.f1.nl⟩,g.s0.draw g.f0 e,g.s1.draw g.f1 e,g.dj,g.t0,g.t1,g.h0,g.h1,e _ _ (g.f0.fd.lst g.tt) g.tt,g.hh.of (g.f0.fd.fz e) λo q=>e _ _ (g.f0.fd.lst hy) q,g.th,g.lh⟩
theorem TwoS.deed {K:PySem.W.Frag}{C:Addr}{H H':Hp}{f l t:Addr}{tv:List V}{h d0 p0:Addr}{n0:List Str}{A0:List Addr}{d1 p1:Addr}{n1:List Str}{A1 A':List Addr}{c m:Nat}(g:TwoS K C H f l t tv h d0 p0 n0 A0 d1 p1 n1 A1 c m)(ow:Ow A0 A' H)(kp:Zm (f :: A0) H H')(fz:Fz H H')(hF:Feed H' f l)(hs:Sd K C H' A' d0 p0 n0 (c+1)):TwoS K C H' f l t tv h d0 p0 n0 A' d1 p1 n1 A1 (c+1) m:=by
 obtain⟨ys,hy⟩:=g.hh.ex
 have out:∀ b,b≠f->b∉A0->∀ o,H b=some o->H' b=some o/\b∉A':=λb hf ha o q=>by
  refine⟨kp _ _ (by simp[hf,ha]) q,λz=>?_⟩
  rcases ow _ z with y | y
  . exact ha y
  rw[q] at y;cases y
 refine⟨g.f0.ow ow hF,⟨hF,g.f1.nf,g.f1.nl⟩,hs,(g.s1.of fz λb hb o q=>(out b (λz=>g.f1.nf (z ▸ hb)) (λz=>g.dj b z hb) o q).1).le (by omega),λb h1 h2=>?_,(out t (g.f0.fd.lst g.tt) g.t0 _ g.tt).2,g.t1,(out h (g.f0.fd.lst hy) g.h0 _ hy).2,g.h1,(out t (g.f0.fd.lst g.tt) g.t0 _ g.tt).1,g.hh.of fz λo q=>(out h (g.f0.fd.lst hy) g.h0 o q).1,g.th,g.lh⟩
 rcases ow _ h1 with z | z
 . exact g.dj b z h2
 exact g.s1.there b h2 z
theorem TwoS.keep {K:PySem.W.Frag}{C:Addr}{H H':Hp}{f l t:Addr}{tv:List V}{h d0 p0:Addr}{n0:List Str}{A0:List Addr}{d1 p1:Addr}{n1:List Str}{A1:List Addr}{c m:Nat}(g:TwoS K C H f l t tv h d0 p0 n0 A0 d1 p1 n1 A1 c m)(e:ExtBut h H H'){m':Nat}(hd:Fz H H'->Hd K H' h m'):TwoS K C H' f l t tv h d0 p0 n0 A0 d1 p1 n1 A1 c m':=by
 obtain⟨ys,hy⟩:=g.hh.ex
 have fz:=e.fzL hy
 have hF:Feed H' f l:=by
  obtain⟨a,t',u,cs,q1,q2,q3,q4⟩:=g.f0.fd
  exact⟨a,t',u,cs,e _ _ (λz=>g.f0.fd.lst hy z.symm) q1,e _ _ g.lh q2,q3,q4⟩
 exact⟨⟨hF,g.f0.nf,g.f0.nl⟩,⟨hF,g.f1.nf,g.f1.nl⟩,g.s0.of fz λb hb o q=>e _ _ (λz=>g.h0 (z ▸ hb)) q,g.s1.of fz λb hb o q=>e _ _ (λz=>g.h1 (z ▸ hb)) q,g.dj,g.t0,g.t1,g.h0,g.h1,e _ _ g.th g.tt,hd fz,g.th,g.lh⟩
theorem TwoS.more {K:PySem.W.Frag}{C:Addr}{H:Hp}{f l t:Addr}{tv:List V}{h d0 p0:Addr}{n0:List Str}{A0:List Addr}{d1 p1:Addr}{n1:List Str}{A1:List Addr}{c m m':Nat}(g:TwoS K C H f l t tv h d0 p0 n0 A0 d1 p1 n1 A1 c m)(hm:m<=m'):TwoS K C H f l t tv h d0 p0 n0 A0 d1 p1 n1 A1 c m':=
 ⟨g.f0,g.f1,g.s0,g.s1,g.dj,g.t0,g.t1,g.h0,g.h1,g.tt,g.hh.le hm,g.th,g.lh⟩
theorem Rh {K:PySem.W.Frag}{C:Addr}{H H6 H7 H8:Hp}{p dx pl ul nt d kd dl vl:Addr}{ns:List Str}(hp:H p=none)(e6:Same H H6)(h6:H6 p=some (.ins C dx []))(hnt:SqT K H nt (ns.map V.str))(hpl:H6 pl=none)(hul:H6 ul=none)(e7:ExtBut p H6 H7)(hK7:KpH K C H7 p pl ul ns ([],0) [] [])
  (hd8:H7 d=none) (hkd8:H7 kd=none) (hdl8:H7 dl=none) (hdkd:d≠kd) (hvl8:H7 vl=none) (hdv:dl≠vl) (e8:Same H7 H8) (h81:H8 d=some (.dK [(Sum.inr "names",.ref nt),(Sum.inr "keeper",.ref p),(Sum.inr "kept",.ref kd),(Sum.inr "next",.int 0),(Sum.inr "done",.ref dl),(Sum.inr "undone",.ref vl)])) (h82:H8 kd=some (.dK [])) (h83:H8 dl=some (.lst [])) (h84:H8 vl=some (.lst [])) :
  ∃ A,Sd K C H8 A d p ns 0/\(∀ b∈A,H b=none)/\Same H H8:=by
 have fz67:=e7.fzI h6
 obtain⟨dx',nv',w',pvs,uvs,g1,g2,g3,g4,g5,g6,g7⟩:=hK7.ex
 have hu8:=e8.fz.seq (fz67.seq (e6.fz.seq hnt))
 have fr:∀ b,H7 b=none->H b=none:=λb hb=>e6.free (Ja e7 (ne_of_none g1 hb).symm hb)
 refine⟨[p,pl,ul,d,kd,dl,vl],⟨pl,ul,kd,dl,vl,([],0),[],[],[],[],rfl,⟨⟨⟨.ref nt,[],[],[],h81,Ov hu8,h82,⟨⟨[],rfl,.nil⟩,λe he=>by cases he⟩,h83,.nil,h84,.nil⟩,hK7.vs,hdkd,hdv⟩,hK7.same e8,.nil,.nil _,?_,?_,?_,?_⟩,by simp⟩,?_,λb o q=>e8 _ _ (e7 _ _ (ne_of_none q hp) (e6 _ _ q))⟩
 . exact(ne_of_none g4 hdl8).symm
 . exact(ne_of_none g6 hdl8).symm
 . exact(ne_of_none g4 hvl8).symm
 . exact(ne_of_none g6 hvl8).symm
 intro b hb
 simp only[List.mem_cons,List.not_mem_nil,or_false] at hb
 rcases hb with rfl | rfl | rfl | rfl | rfl | rfl | rfl
 . exact hp
 . exact e6.free hpl
 . exact e6.free hul
 . exact fr _ hd8
 . exact fr _ hkd8
 . exact fr _ hdl8
 exact fr _ hvl8
theorem ar8 {f:Addr}{fd:FuncData}(F:Fun K "law" "law" Rm f fd)(T:Fp mg){C_Keeper:Addr}(k_Keeper:Aq K C_Keeper)(K5:Fnd P w K mg base 1 "_law_feed" ["_law_script"] (Iq K))(Ak:Fnd P w K mg base 1 "_law_draw" ["_law_feed_here","_law_many"] (Fg K))(J3:Fnd P w K mg base 2 "_law_names" ["_law_feed_here","_law_many"] (Hy K))(Gb:Fnd P w K mg base 1 "_law_side" ["_law_names_here","_law_keeper"] (Iv K))(Cu:Fnd P w K mg base 6 "_law_looked" ["_law_side_here"] (Gv C_Keeper K))(K9:Fnd P w K mg base 7 "_law_deed" ["_law_feed_here","_law_side_here"] (Io C_Keeper K))(Ea:Mkd P w K mg base 4 C_Keeper "Keeper" ["self","names"] (Gw C_Keeper K))(Ah:Mtd P w K mg base 1 C_Keeper "half" ["self"] (B8 C_Keeper K)):FnOk P w K mg base CX0 8 f fd ["_law_script"] (spLaw K):=by
 refine F.ok Jn (λvs H Q E h=>?_) (λcdv A outer s H vs Q E hr h=>?_)
 . obtain⟨a,ns,rfl,_⟩:=h
   rfl
 obtain⟨a,cs,rfl,hS,h63,k⟩:=h
 have hu:=Cc hr
 have hq:=Cd hr
 with_reducible refine⟨_,(A5 (Al (i:=1) Jn.nd ⋯ (by eq_refl) (Bo K5 (hr.mono ∅) ⋯ (A3 (pv 0) A4)))
  (A5 (Al (i:=2) Jn.nd ⋯ (by eq_refl) (Bo J3 (hr.mono ∅) ⋯ (A3 (pv 1) (A3 (B3 (Aw (K:=K)) A9 (Bo Ak (hr.mono ∅) ⋯ (A3 (pv 1) (A3 A9 A4)))) A4))))
  (A5 (Al (i:=3) Jn.nd ⋯ (by eq_refl) (Af (A8 (K:=K) hu) (Bz (A3 (pv 2) (A3 (B3 (Aw (K:=K)) (Fr (a81 (K:=K)) (pv 2) (Em A9) Mh) (Bz (A3 Ab A4))) (A3 (Iy (pv 2) (aa4 Vr A9)) (A3 (pv 2) A4))))) (Bo Ak (hr.mono ∅) ⋯ (A3 (pv 1) (A3 A9 A4))) (by ac_rfl)))
  (A5 (Al (i:=4) Jn.nd ⋯ (by eq_refl) (Ay (Jf (K:=K)) ⋯ T.b_list PyProof.Rows.Boot.«list» (A3 (pv 3) A4)))
  (A5 (Al (i:=5) Jn.nd ⋯ (by eq_refl) (Bz (A3 (Bo Gb (hr.mono ∅) ⋯ (A3 (Ay (Bq (K:=K)) ⋯ T.b_tuple PyProof.Rows.Boot.«tuple» (A3 (pv 2) A4)) (A3 (ad4 Ea (hr.mono ∅) ⋯ (A3 (Ay (Jf (K:=K)) ⋯ T.b_list PyProof.Rows.Boot.«list» (A3 (pv 2) A4)) A4)) A4))) (A3 (Bo Gb (hr.mono ∅) ⋯ (A3 (Ay (Bq (K:=K)) ⋯ T.b_tuple PyProof.Rows.Boot.«tuple» (A3 (pv 3) A4)) (A3 (ad4 Ea (hr.mono ∅) ⋯ (A3 (pv 4) A4)) A4))) A4))))
  (A5 (Bc (Ai (B5 (K:=K) hq) (Bo Ak (hr.mono ∅) ⋯ (A3 (pv 1) (A3 A9 A4))) A9 (An _)) (A7 (az2 (Bo Gb (hr.mono ∅) ⋯ (A3 (Ay (Bq (K:=K)) ⋯ T.b_tuple PyProof.Rows.Boot.«tuple» (A3 (pv 3) A4)) (A3 (ad4 Ea (hr.mono ∅) ⋯ (A3 (pv 4) A4)) A4))) (ay4 (pv 5) A9 ad2))) Am)
  (A5 (Bf (L0 (K:=K) A0F PySem.F.slot_list_clear PySem.F.type_list_clear (mm a99) (pv 4)))
  (A5 (Al (i:=6) Jn.nd ⋯ (by eq_refl) (Bz A4))
  (A5 (Hi A1C ⋯ (Kk ⋯ T.b_range (A3 (B3 (Aw (K:=K)) A9 (Bo Ak (hr.mono ∅) ⋯ (A3 (pv 1) (A3 A9 A4)))) A4)) (B4 (i:=7) Jn.nd ⋯ (by eq_refl))
  (A5 (Al (i:=8) Jn.nd ⋯ (by eq_refl) (Af (A8 (K:=K) hu) (pv 5) (Bo Ak (hr.mono ∅) ⋯ (A3 (pv 1) (A3 A9 A4))) (by ac_rfl)))
  (A5 (Bc (Ig (Dr (Bo K9 (hr.mono ∅) ⋯ (A3 (pv 1) (A3 (pv 8) A4))))) (A7 (Ap Ij)) Am)
  (A7 (Bc (Ai (B5 (K:=K) hq) (Bo Ak (hr.mono ∅) ⋯ (A3 (pv 1) (A3 A9 A4))) A9 (An _)) (A5 (Bc (PW.pt (Rx (Ig (Dr (Bo Cu (hr.mono ∅) ⋯ (A3 (Af (A8 (K:=K) hu) (pv 5) A9 (by ac_rfl)) A4)))) (Od (Ig (Dr (Bo Cu (hr.mono ∅) ⋯ (A3 (Af (A8 (K:=K) hu) (pv 5) A9 (by ac_rfl)) A4))))))) (A7 (Ap Ij)) Am)
  (A5 (Al (i:=9) Jn.nd ⋯ (by eq_refl) (Ln (C:=C_Keeper) (Af (A8 (K:=K) hu) (pv 8) Ab (by ac_rfl)) k_Keeper.cl Ah (hr.mono ∅)))
  (A7 (Bf (Ff (K:=K) A0F A0O A0P (mm Bg) (pv 6) (A3 (B6 (A3 (pv 9) (A3 (Ag (Ca (K:=K) hq) ⋯ T.b_repr PyProof.Rows.Boot.«repr» (A3 (pv 9) A4)) A4))) A4)))))) Am)))))
  (A5 (Bc (Ai (Lk (K:=K) hq) (Eu ["_law_half","_law_told"] [] [] ⋯ ⋯ ⋯ (Bs (K:=K) hu (pv 6)) (λ_ _ _ _=>(Uh (K:=K) (n:=2) ⋯ (Jg (B4 (i:=0) (by with_unfolding_all (show(["_law_half","_law_told"]:List Str).Nodup;decide +kernel)) ⋯ (by eq_refl)) (Jg (B4 (i:=1) (by with_unfolding_all (show(["_law_half","_law_told"]:List Str).Nodup;decide +kernel)) ⋯ (by eq_refl)) Ul)))) (as1 (Xr ∅ (Xr ∅ av8))) (λ_ _ _ _=>(Qo (Ai (Lk (K:=K) hq) (Ag (Ca (K:=K) hq) ⋯ T.b_repr PyProof.Rows.Boot.«repr» (A3 (pv 0) A4)) (pv 1) (An _)))) (λ_ _ _ _=>A9)) (Bz A4) (An _)) (A7 (Ap Ij)) Am)
  (A7 (Ap (W6 (Bo Cu (hr.mono ∅) ⋯ (A3 (Af (A8 (K:=K) hu) (pv 5) A9 (by ac_rfl)) A4)) (Vd (Bo Cu (hr.mono ∅) ⋯ (A3 (Af (A8 (K:=K) hu) (pv 5) A9 (by ac_rfl)) A4)))))))))))))))),?_⟩
 symm
 refine⟨a,cs,rfl,hS,h63,λf l H1 hf hl e1 hF=>?_⟩
 symm
 refine⟨f,l,_,rfl,hF,by omega,by omega,λc2 H2 hc0 hc1 e2 hF2=>?_⟩
 symm
 refine⟨f,l,1+c2,rfl,hF2,by omega,by omega,λfl ns H3 hn3 e3 hF3 h3 hN hnl=>?_⟩
 symm
 have hn6:ns.length<=6:=by omega
 have hn1:1<=ns.length:=by omega
 refine Ys (SqL.of h3) λq4 H4 hq4 e4 h4=>?_
 rw[Vt (by omega) (by simp;omega)] at h4
 symm
 refine B7 (Aa nofun) λq5 H5 hq5 e5 h5=>?_
 symm
 refine Qa (e5 _ _ h4) h5 (Aa (by simp;omega)) λq6 H6 hq6 e6 h6=>?_
 symm
 refine Qg (SqL.of (e6 _ _ (e5 _ _ (e4 _ _ h3)))) (.inr rfl) λq7 H7 hq7 e7 h7=>?_
 symm
 have e37:=((e4.trans e5).trans e6).trans e7
 refine B7 (Aa nofun) λq8 H8 hq8 e8 h8=>?_
 symm
 have e38:=e37.trans e8
 refine⟨f,l,_,rfl,hF3.same e38,by omega,by omega,λc9 H9 h90 h91 e9 hF9=>?_⟩
 symm
 have h39:=e9 _ _ ((hF3.same e38).lst (e38 _ _ h3)) (e38 _ _ h3)
 have h69:=e9 _ _ ((hF3.same e38).lst (e8 _ _ (e7 _ _ h6))) (e8 _ _ (e7 _ _ h6))
 have h79:=e9 _ _ ((hF3.same e38).lst (e8 _ _ h7)) (e8 _ _ h7)
 have h89:=e9 _ _ ((hF3.same e38).lst h8) h8
 obtain ⟨nl,ms,hat,hms,hM,hml⟩:∃ nl ms,atI [V.ref fl,.ref q6,.ref q7,.ref fl] c9=some (.ref nl)/\H9 nl=some (.lst (ms.map V.str))/\Names ms/\ms.length<=6:=by
  obtain⟨j,rfl⟩:=A41 h90
  match j,h91 with
  | 0,_=>exact⟨fl,ns,C5 rfl,h39,hN.nm,hn6⟩
  | 1,_=>
    refine⟨q6,ns.drop 1++[("spare":Str)],C5 rfl,?_,⟨List.nodup_append.mpr ⟨hN.nm.1.sublist (List.drop_sublist _ _),by simp,λx hx y hy=>?_⟩,λz hz=>?_⟩,by simp;omega⟩
    . rw[h69,A0G,List.map_drop]
      rfl
    . intro q
      have:y = "spare":=by simpa using hy
      exact hN.zz (this ▸ q ▸ (List.drop_sublist _ _).subset hx)
    rcases A0B.mp hz with hz | hz
    . exact hN.nm.2 z ((List.drop_sublist _ _).subset hz)
    rw[show z = "spare" by simpa using hz]
    decide +kernel
  | 2,_=>
    obtain⟨ms,g1,g2,g3⟩:=Mm hN (k:=-1)
    exact⟨q7,ms,C5 rfl,by rw[h79,g1],g2.nm,by omega⟩
  | 3,_=>exact⟨fl,ns,C5 rfl,h39,hN.nm,hn6⟩
  | n+4,h=>omega
 refine Eh h89 hat ?_
 symm
 refine Uk (.inl (SqL.of hms)) λhdl H10 hq10 e10 h10=>?_
 symm
 have hlhd:l≠hdl:=by
  obtain⟨_,_,_,_,_,z,_⟩:=hF9
  exact ne_of_none z hq10
 refine Fs (SqL.of (e10 _ _ h39)) λt11 H11 ht11 e11 h11=>?_
 symm
 refine Uk (.inl (SqL.of (e11 _ _ (e10 _ _ h39)))) λq12 H12 hq12 e12 h12=>?_
 symm
 have hF12:=hF9.same ((e10.trans e11).trans e12)
 refine aD1 λp13 dx13 H13 hp13 e13 h13=>?_
 refine⟨p13,.ref q12,dx13,ns,rfl,h13,⟨q12,rfl,.inl (SqL.of (e13 _ _ h12))⟩,hN.nm,by omega,λpl13 ul13 H14 hpl13 hul13 e14 hK14=>⟨rfl,?_⟩⟩
 symm
 refine⟨.ref t11,.ref p13,rfl,λd15 kd15 dl15 vl15 H15 g1 g2 g3 g4 g5 g6 g7 g8 g9 g10 g11=>?_⟩
 obtain⟨A0,hS0,hA0,e15⟩:=Rh hp13 e13 h13 (SqT.of (e12 _ _ h11)) hpl13 hul13 e14 hK14 g1 g2 g3 g4 g5 g6 g7 g8 g9 g10 g11
 have fda:∀ {H:Hp} {A:List Addr},Feed H f l->(∀ b∈A,H b=none)->∀ {H'},Same H H'->FdA H' f l A:=fun {H A} hF hA {H'} e=>by
  obtain⟨_,_,_,_,z1,z2,_⟩:=id hF
  exact⟨hF.same e,λq=>by rw[hA _ q] at z1;(cases z1),λq=>by rw[hA _ q] at z2;(cases z2)⟩
 have hFA0:FdA H15 f l A0:=fda hF12 hA0 e15
 clear g1 g2 g3 g4 g5 g6 g7 g8 g9 g10 g11
 have hd15:H15 hdl=some (.lst (ms.map V.str)):=e15 _ _ (e12 _ _ (e11 _ _ h10))
 have hm15:=e15 _ _ (e12 _ _ (e11 _ _ (e10 _ _ hms)))
 have hdA0:hdl∉A0:=λq=>by
  have:=hA0 _ q
  rw[e12 _ _ (e11 _ _ h10)] at this
  cases this
 symm
 refine Fs (SqL.of hm15) λt16 H16 ht16 e16 h16=>?_
 symm
 refine aD1 λp17 dx17 H17 hp17 e17 h17=>?_
 have hd16:=e16 _ _ hd15
 refine⟨p17,.ref hdl,dx17,ms,rfl,h17,⟨hdl,rfl,.inl (SqL.of (e17 _ _ hd16))⟩,hM,by omega,λpl17 ul17 H18 hpl17 hul17 e18 hK18=>⟨rfl,?_⟩⟩
 symm
 refine⟨.ref t16,.ref p17,rfl,λd19 kd19 dl19 vl19 H19 g1 g2 g3 g4 g5 g6 g7 g8 g9 g10 g11=>?_⟩
 obtain⟨A1,hS1,hA1,e19⟩:=Rh hp17 e17 h17 (SqT.of h16) hpl17 hul17 e18 hK18 g1 g2 g3 g4 g5 g6 g7 g8 g9 g10 g11
 clear g1 g2 g3 g4 g5 g6 g7 g8 g9 g10 g11
 have hFA1:FdA H19 f l A1:=fda (hFA0.fd.same e16) hA1 e19
 have hdA1:hdl∉A1:=λq=>by
  have:=hA1 _ q
  rw[hd16] at this
  cases this
 have e1619:=e16.trans e19
 have hS0':=hS0.same e1619
 have hFA0':=hFA0.same e1619
 have dj:∀ b∈A0,b∉A1:=λb h1 h2=>hS0.there b h1 (e16.free (hA1 b h2))
 symm
 refine B7 (Aa nofun) λtw H20 htw e20 h20=>?_
 walk_at "rq"
 have htA0:tw∉A0:=λq=>hS0'.there _ q htw
 have htA1:tw∉A1:=λq=>hS1.there _ q htw
 have hd20:H20 hdl=some (.lst (ms.map V.str)):=e20 _ _ (e1619 _ _ hd15)
 have hm20:=e20 _ _ (e1619 _ _ hm15)
 have htd:tw≠hdl:=(ne_of_none (e1619 _ _ hd15) htw).symm
 have hltw:l≠tw:=by
  obtain⟨_,_,_,_,_,z,_⟩:=hFA0'.fd
  exact ne_of_none z htw
 with_reducible refine Ws (fun σ' H'=>σ'=[some (.ref a),some (.ref f),some (.ref fl),some (.ref nl),some (.ref hdl),some (.ref tw),none,none,none,none]/\∃ d0 p0 n0 A0 d1 p1 n1 A1,FdA H' f l A0/\FdA H' f l A1/\Sd K C_Keeper H' A0 d0 p0 n0 0/\Sd K C_Keeper H' A1 d1 p1 n1 0/\(∀ b∈A0,b∉A1)/\tw∉A0/\tw∉A1/\hdl∉A0/\hdl∉A1/\H' tw=some (.lst [.ref d0,.ref d1])/\H' hdl=some (.lst (ms.map V.str))) (λN hN'=>?_) (fun σ1 H30 hM30=>?_)
 . walk_at "rq"
   refine⟨f,l,_,rfl,hFA0'.fd.same e20,by omega,by omega,λc21 H21 h210 h211 e21 hF21=>?_⟩
   have hS0'':=(hS0'.same e20).draw (hFA0'.same e20) e21
   have hS1'':=(hS1.same e20).draw (hFA1.same e20) e21
   have hFA0'':FdA H21 f l A0:=⟨hF21,hFA0'.nf,hFA0'.nl⟩
   have hFA1'':FdA H21 f l A1:=⟨hF21,hFA1.nf,hFA1.nl⟩
   have lst21:∀ {q:Addr} {xs:List V},H20 q=some (.lst xs)->H21 q=some (.lst xs):=fun {q xs} h=>e21 _ _ ((hFA0'.same e20).fd.lst h) h
   walk_at "rq"
   refine Fh (λhc=>?_) (λhc=>?_)
   . walk_at "rq"
     refine Fs (SqL.of (lst21 hm20)) λt22 H22 ht22 e22 h22=>?_
     walk_at "rq"
     refine aD1 λp23 dx23 H23 hp23 e23 h23=>?_
     refine⟨p23,.ref hdl,dx23,ms,rfl,h23,⟨hdl,rfl,.inl (SqL.of (e23 _ _ (e22 _ _ (lst21 hd20))))⟩,hM,by omega,λpl23 ul23 H24 hpl23 hul23 e24 hK24=>⟨rfl,?_⟩⟩
     walk_at "rq"
     refine⟨.ref t22,.ref p23,rfl,λd25 kd25 dl25 vl25 H25 g1 g2 g3 g4 g5 g6 g7 g8 g9 g10 g11=>?_⟩
     obtain⟨A2,hS2,hA2,e25⟩:=Rh hp23 e23 h23 (SqT.of h22) hpl23 hul23 e24 hK24 g1 g2 g3 g4 g5 g6 g7 g8 g9 g10 g11
     clear g1 g2 g3 g4 g5 g6 g7 g8 g9 g10 g11
     have e2125:=e22.trans e25
     have hFA2:FdA H25 f l A2:=fda (hF21.same e22) hA2 e25
     have htw25:=e2125 _ _ (lst21 h20)
     have nA2:∀ {q:Addr} {o},H21 q=some o->q∉A2:=fun {q o} h z=>by
      have:=hA2 _ z
      rw[e22 _ _ h] at this
      cases this
     walk_at "rq"
     refine av6 ?_
     walk_at "rq"
     refine aw0 (j:=0) htw25 nofun nofun λH26 e26 h26=>?_
     have fz26:=e26.fzL htw25
     have hF26:Feed H26 f l:=by
      obtain⟨a',t',u',cs',q1,q2,q3,q4⟩:=hFA2.fd
      exact⟨a',t',u',cs',e26 _ _ (λz=>hFA2.fd.lst htw25 z.symm) q1,e26 _ _ hltw q2,q3,q4⟩
     walk_at "rq"
     refine hN' _ _ ⟨rfl,d25,p23,ms,A2,_,_,_,A1,⟨hF26,hFA2.nf,hFA2.nl⟩,⟨hF26,hFA1.nf,hFA1.nl⟩,hS2.of fz26 λb hb o q=>e26 _ _ (λz=>nA2 (lst21 h20) (z ▸ hb)) q,(hS1''.same e2125).of fz26 λb hb o q=>e26 _ _ (λz=>htA1 (z ▸ hb)) q,λb h1 h2=>hS1''.there b h2 (e22.free (hA2 b h1)),nA2 (lst21 h20),htA1,nA2 (lst21 hd20),hdA1,h26,e26 _ _ htd.symm (e2125 _ _ (lst21 hd20))⟩
   walk_at "rq"
   exact hN' _ _ ⟨rfl,_,_,_,A0,_,_,_,A1,hFA0'',hFA1'',hS0'',hS1'',dj,htA0,htA1,hdA0,hdA1,lst21 h20,lst21 hd20⟩
 obtain⟨rfl,d0,p0,n0,B0,d1,p1,n1,B1,b1,b2,b3,b4,b5,b6,b7,b8,b9,b10,b11⟩:=hM30
 clear hS0 hS1 hS0' hFA0 hFA0' hFA1 hA0 hA1 htA0 htA1 hdA0 hdA1 dj
 symm
 refine ak4 b11 λH31 e31 h31=>?_
 have fz31:=e31.fzL b11
 have hF31:Feed H31 f l:=by
  obtain⟨a',t',u',cs',q1,q2,q3,q4⟩:=b1.fd
  exact⟨a',t',u',cs',e31 _ _ (λz=>b1.fd.lst b11 z.symm) q1,e31 _ _ hlhd q2,q3,q4⟩
 symm
 refine B7 (Aa nofun) λhh H32 hhh e32 h32=>?_
 have s0:=b3.of fz31 λb hb o q=>e31 _ _ (λz=>b8 (z ▸ hb)) q
 have s1:=b4.of fz31 λb hb o q=>e31 _ _ (λz=>b9 (z ▸ hb)) q
 have tt31:=e31 _ _ htd b10
 have hT:TwoS K C_Keeper H32 f l tw [.ref d0,.ref d1] hh d0 p0 n0 B0 d1 p1 n1 B1 0 0:=⟨⟨hF31.same e32,b1.nf,b1.nl⟩,⟨hF31.same e32,b2.nf,b2.nl⟩,s0.same e32,s1.same e32,b5,b6,b7,λq=>s0.there _ q hhh,λq=>s1.there _ q hhh,e32 _ _ tt31,⟨[],[],h32,.nil,λq hq=>(by cases hq),by simp⟩,ne_of_none tt31 hhh,by
  obtain⟨_,_,_,_,_,z,_⟩:=hF31
  exact ne_of_none z hhh⟩
 clear b1 b2 b3 b4 b5 b6 b7 b8 b9 b10 b11 s0 s1
 symm
 refine⟨f,l,_,rfl,hT.f0.fd,by omega,by omega,λc33 H33 h330 h331 e33 hF33=>?_⟩
 have hT33:=hT.draw e33 hF33
 symm
 refine Vu (by omega) ?_
 have hz9:(5+c33).toNat<=30:=by omega
 refine Sv Hg (λi σ H'=>∃ x7 x8 x9 B0 B1,σ=[some (.ref a),some (.ref f),some (.ref fl),some (.ref nl),some (.ref hdl),some (.ref tw),some (.ref hh),x7,x8,x9]/\TwoS K C_Keeper H' f l tw [.ref d0,.ref d1] hh d0 p0 n0 B0 d1 p1 n1 B1 i i) ⟨_,_,_,_,_,rfl,hT33⟩ (λ_ _ _ _=>trivial) (λi x σ H34 hx hi hP=>?_) (fun σ H34 hP=>?_)
 . obtain⟨x7,x8,x9,B0,B1,rfl,hT34⟩:=hP
   obtain⟨rfl,hi2⟩:=Mf hx
   symm
   refine⟨f,l,_,rfl,hT34.f0.fd,by omega,by omega,λc35 H35 h350 h351 e35 hF35=>?_⟩
   have hT35:=hT34.draw e35 hF35
   clear hT34 e35 hF35
   symm
   obtain⟨da,pa,na,Ba,db,pb,nb,Bb,hat,hTa,back⟩:∃ da pa na Ba db pb nb Bb,atI [V.ref d0,.ref d1] c35=some (.ref da)/\TwoS K C_Keeper H35 f l tw [.ref d0,.ref d1] hh da pa na Ba db pb nb Bb i i/\∀ {H' Ba' Bb' c' m'},TwoS K C_Keeper H' f l tw [.ref d0,.ref d1] hh da pa na Ba' db pb nb Bb' c' m'->∃ B0 B1,TwoS K C_Keeper H' f l tw [.ref d0,.ref d1] hh d0 p0 n0 B0 d1 p1 n1 B1 c' m':=by
    obtain⟨j,rfl⟩:=A41 h350
    match j,h351 with
    | 0,_=>exact⟨_,_,_,_,_,_,_,_,C5 rfl,hT35,λh=>⟨_,_,h⟩⟩
    | 1,_=>exact⟨_,_,_,_,_,_,_,_,C5 rfl,hT35.swap,λh=>⟨_,_,h.swap⟩⟩
    | n+2,h=>omega
   refine Eh hTa.tt hat ?_
   symm
   refine⟨f,l,da,pa,Ba,na,i,rfl,hTa.f0,hTa.s0,by omega,λBa' H36 ow kp fz hF36 hSd36=>?_⟩
   have hT36:=hTa.deed ow kp fz hF36 hSd36
   clear hTa ow kp fz hSd36
   symm
   refine⟨f,l,_,rfl,hF36,by omega,by omega,λc37 H37 h370 h371 e37 hF37=>?_⟩
   have hT37:=hT36.draw e37 hF37
   symm
   refine Fh (λhc=>?_) (λhc=>?_)
   . obtain⟨C0,C1,hX⟩:=back hT37
     symm
     refine Eh hX.tt (C5 (j:=0) rfl) ?_
     symm
     refine⟨d0,p0,C0,n0,_,rfl,hX.s0,by omega,λH38 e38=>?_⟩
     symm
     refine Eh (e38 _ _ hX.tt) (C5 (j:=1) rfl) ?_
     symm
     refine⟨d1,p1,C1,n1,_,rfl,hX.s1.same e38,by omega,λH39 e39=>?_⟩
     have hT39:=hT37.same (e38.trans e39)
     clear hX
     have hSd:=hT39.s0
     obtain⟨pl,ul,kd,dl,vl,S,ds,us,pa',un,rfl,hS,hcc⟩:=hSd
     have hla:=hS.hi.len
     obtain⟨nv,kvs,ys,zs,g1,g2,g3,g4,g5,g6,g7,g8⟩:=hS.o.ex
     obtain⟨dx,nv',w,pv0,uv0,k1,k2,k3⟩:=hS.kp.at.ex
     have hle:=hS.o.vs.le
     symm
     refine Jm k1 (by rfl) ?_
     symm
     refine⟨pa,na,S.1,S.2,rfl,hS.kp.at,λu40 H40 e40 hu40=>?_⟩
     have hT40:=hT39.same e40
     have hnm:NmP (S.1.map (·.2)):=λq hq=>by
      obtain⟨e,he,rfl⟩:=A0I.mp hq
      have:=hS.kp.vs.mem e he
      exact⟨hS.kp.nd.2 _ this.1,hS.kp.nd.2 _ this.2⟩
     have hsh:Sh (hfD na (S.1.map (·.2))):=(Z7 hS.kp.nd.2 hnm (A0L hS.kp.few ∅) (by rw[A00];omega)).sh rfl
     symm
     obtain⟨ys9,hy9⟩:=hT40.hh.ex
     refine i_tyLm hy9 ?_
     symm
     refine Ox hu40 hsh ?_
     symm
     refine Az (Aa nofun) λt41 H41 ht41 e41 h41=>?_
     have hT41:=hT40.same e41
     obtain⟨hs,ys',m1,m2,m3,m4⟩:=hT41.hh
     have hyl:=IsL.length m2
     rw[A00] at hyl
     symm
     refine Fo m1 (by omega) λH42 e42 h42=>?_
     symm
     have hT42:=hT41.keep (m':=i+1) e42 λfz=>⟨hs++[(na,S.1.map (·.2))],_,h42,by
      rw[A0G]
      exact(IsL.fz fz _ _ (a00 _) m2).append (.one (Is.of_tup (fz.seq (SqT.of h41)) (.cons (Is.fz (e41.fz.trans fz) _ _ (a49 _ _) hu40) (.one Dp)))),λq hq=>by
       rcases A0B.mp hq with hq | hq
       . exact m3 q hq
       rw[A15.mp hq]
       exact hsh,by simp;omega⟩
     obtain⟨D0,D1,hY⟩:=back hT42
     exact⟨_,_,_,_,_,rfl,hY⟩
   symm
   obtain⟨D0,D1,hY⟩:=back (hT37.more (A20 _))
   exact⟨_,_,_,_,_,rfl,hY⟩
 obtain⟨x7,x8,x9,B0,B1,rfl,hT34⟩:=hP
 symm
 obtain⟨hs,ys,m1,m2,m3,m4⟩:=hT34.hh
 have hyl:=IsL.length m2
 rw[A00] at hyl
 refine aj7 (SqL.of m1) (Gj (K:=K) (Mi (xs:=ys)) hs (by omega) (λ_=>false) (λ_=>PyData.none) (λ_=>rfl) (by simp at m4;omega) (λH' e=>e.seq (SqL.of m1)) (λi' z v Ha R R' hz hv ea hR hR'=>?_) (λq us Ha hqa ea hq' hLa=>?_))
 . obtain⟨dd,hd,hI⟩:=IsL.get (IsL.mono ea _ _ m2) hv
   rw[A0A,hz] at hd
   cases hd
   obtain⟨t9,xs9,rfl,hS9,hL9⟩:=Is.tup hI
   have hL9':∃ v1,xs9=[v1,.str (hfX z).shown]/\Is K Ha (hfX z) v1:=by
    obtain ⟨v1,q1,q2⟩:=hL9.at (i:=0) rfl
    obtain⟨v2,q3,q4⟩:=hL9.at (i:=1) rfl
    have q5:=hL9.length
    match xs9,q1,q3,q5 with
    | [y1,y2],q1,q3,_=>
      cases q1
      cases q3
      refine⟨v1,?_,q2⟩
      rw[show v2 = .str (hfX z).shown by simpa only[Is] using q4]
   obtain⟨v1,rfl,hI1⟩:=hL9'
   symm
   refine aB8 hS9 ?_
   symm
   refine Ox (d:=hfX z) hI1 (m3 z (A04 hz)) ?_
   symm
   exact hR' rfl _ (.refl _)
 have hus:us=[]:=by
  rw[List.filter_eq_nil_iff.mpr nofun] at hLa
  exact Jb hLa
 subst hus
 symm
 refine B7 (Aa nofun) λqb Hb hqb eb hb=>?_
 refine at2 (M0 (ns:=[]) (SqL.of (eb _ _ hq'))) (M0 (ns:=[]) (SqL.of hb)) (A36 []) (A36 []) ?_
 rw[show PyData.eqv (.list (([]:List Int).map PyData.int)) (.list (([]:List Int).map PyData.int))=true by simp[PyData.eqv,PyData.eqvAll]]
 have hTb:=hT34.same (ea.trans eb)
 symm
 refine Eh hTb.tt (C5 (j:=0) rfl) ?_
 symm
 refine⟨d0,p0,B0,n0,_,rfl,hTb.s0,by simp;omega,λH38 e38=>?_⟩
 symm
 refine Eh (e38 _ _ hTb.tt) (C5 (j:=1) rfl) ?_
 symm
 refine⟨d1,p1,B1,n1,_,rfl,hTb.s1.same e38,by simp;omega,λH39 e39=>?_⟩
 symm
 exact k _
end
theorem all_mk {l:PySem.W.OpenLaw}{w:World}{K:PySem.W.Frag}{h:Heap}{mg:Str->Option Value}{fa f0 f1 f2 f3 f4 f5 f6 f7 f8 f9 f10 f11 f12 f13 f14 f15 f16 f17 f18 f19 f20 f21 f22 f23 f24 f25 f26 f27 f28 f29 f30 f31 f32 f33 f34 f35 f36 f37 f38 f39 f40 f41 f42 f43 f44 f45 f46 f47 C_Ways C_Keeper C_HalfError C_NoHalf C_NoText C_NoName C_TooMany C_NoCover C_NoPlace C_NoOrder C_NoJoin C_Clash C_NoPaper C_NoPlan C_NoBound C_NoSaying C_NoMore:Addr}(X:K.In h)(G:h.Ns mainGlobals mg)(hfa:mg "law" = some (.ref fa))
  {D0 N0 D1 N1 D2 N2 D3 N3 D4 N4 D5 N5 D6 N6 D7 N7 D8 N8 D9 N9 D10 N10 D11 N11 D12 N12 D13 N13 D14 N14 D15 N15 D16 N16 D17 N17 D18 N18 D19 N19 D20 N20 D21 N21 D22 N22 D23 N23 D24 N24 D25 N25 D26 N26 D27 N27 D28 N28 D29 N29 D30 N30 D31 N31 D32 N32 D33 N33 D34 N34 D35 N35 D36 N36 D37 N37 D38 N38 D39 N39 D40 N40 D41 N41 D42 N42 D43 N43 D44 N44 D45 N45 D46 N46 D47 N47:Option Addr} {S0 S1 S2 S3 S4 S5 S6 S7 S8 S9 S10 S11 S12 S13 S14 S15 S16 S17 S18 S19 S20 S21 S22 S23 S24 S25 S26 S27 S28 S29 S30 S31 S32 S33 S34 S35 S36 S37 S38 S39 S40 S41 S42 S43 S44 S45 S46 S47:Array (Option Value)} {O0 V0 E0 P0 Q0 U0 O1 V1 E1 P1 Q1 U1 O2 V2 E2 P2 Q2 U2 O3 V3 E3 P3 Q3 U3 O4 V4 E4 P4 Q4 U4 O5 V5 E5 P5 Q5 U5 O6 V6 E6 P6 Q6 U6 O7 V7 E7 P7 Q7 U7 O8 V8 E8 P8 Q8 U8 O9 V9 E9 P9 Q9 U9 O10 V10 E10 P10 Q10 U10 O11 V11 E11 P11 Q11 U11 O12 V12 E12 P12 Q12 U12 O13 V13 E13 P13 Q13 U13 O14 V14 E14 P14 Q14 U14 O15 V15 E15 P15 Q15 U15 O16 V16 E16 P16 Q16 U16 O17 V17 E17 P17 Q17 U17 O18 V18 E18 P18 Q18 U18 O19 V19 E19 P19 Q19 U19 O20 V20 E20 P20 Q20 U20 O21 V21 E21 P21 Q21 U21 O22 V22 E22 P22 Q22 U22 O23 V23 E23 P23 Q23 U23 O24 V24 E24 P24 Q24 U24 O25 V25 E25 P25 Q25 U25 O26 V26 E26 P26 Q26 U26 O27 V27 E27 P27 Q27 U27 O28 V28 E28 P28 Q28 U28 O29 V29 E29 P29 Q29 U29 O30 V30 E30 P30 Q30 U30 O31 V31 E31 P31 Q31 U31 O32 V32 E32 P32 Q32 U32 O33 V33 E33 P33 Q33 U33 O34 V34 E34 P34 Q34 U34 O35 V35 E35 P35 Q35 U35 O36 V36 E36 P36 Q36 U36 O37 V37 E37 P37 Q37 U37 O38 V38 E38 P38 Q38 U38 O39 V39 E39 P39 Q39 U39 O40 V40 E40 P40 Q40 U40 O41 V41 E41 P41 Q41 U41 O42 V42 E42 P42 Q42 U42 O43 V43 E43 P43 Q43 U43 O44 V44 E44 P44 Q44 U44 O45 V45 E45 P45 Q45 U45 O46 V46 E46 P46 Q46 U46 O47 V47 E47 P47 Q47 U47:Value}
  (aC_Ways:PySem.W.nsIn K mainGlobals "Ways" = some (some (.ref C_Ways))) (pg_Ways:PySem.W.plainGet K C_Ways Str.empty=true) (hd_Ways:PySem.W.hasDictIn K C_Ways=true) (po_Ways:PySem.W.plainOver K C_Ways=true) (sa_Ways:PySem.W.findIn K (.ref C_Ways) "__setattr__" = some (some (.builtin "object.__setattr__"))) (mk_Ways:PySem.W.makesIn K C_Ways=true) (kc_Ways:PySem.W.keepIn K (.ref C_Ways)=true)
  (n_Ways_names:PySem.W.findIn K (.ref C_Ways) "names" = some none)
  (n_Ways_bits:PySem.W.findIn K (.ref C_Ways) "bits" = some none)
  (n_Ways_ahead:PySem.W.findIn K (.ref C_Ways) "ahead" = some none)
  (n_Ways_full:PySem.W.findIn K (.ref C_Ways) "full" = some none)
  (n_Ways_known:PySem.W.findIn K (.ref C_Ways) "known" = some none)
  (aC_Keeper:PySem.W.nsIn K mainGlobals "Keeper" = some (some (.ref C_Keeper))) (pg_Keeper:PySem.W.plainGet K C_Keeper Str.empty=true) (hd_Keeper:PySem.W.hasDictIn K C_Keeper=true) (po_Keeper:PySem.W.plainOver K C_Keeper=true) (sa_Keeper:PySem.W.findIn K (.ref C_Keeper) "__setattr__" = some (some (.builtin "object.__setattr__"))) (mk_Keeper:PySem.W.makesIn K C_Keeper=true) (kc_Keeper:PySem.W.keepIn K (.ref C_Keeper)=true)
  (n_Keeper_names:PySem.W.findIn K (.ref C_Keeper) "names" = some none)
  (n_Keeper_now:PySem.W.findIn K (.ref C_Keeper) "now" = some none)
  (n_Keeper_past:PySem.W.findIn K (.ref C_Keeper) "past" = some none)
  (n_Keeper_undone:PySem.W.findIn K (.ref C_Keeper) "undone" = some none)
  (cg:PySem.W.specialIn K (.builtin "object.__class__") "__get__" = some (some (.builtin "getset_descriptor.__get__"))) (ct:PySem.W.takesIn K (.builtin "object.__class__")=some true)
  (aX_HalfError:PySem.W.nsIn K mainGlobals "HalfError" = some (some (.ref C_HalfError)))
  (aX_NoHalf:PySem.W.nsIn K mainGlobals "NoHalf" = some (some (.ref C_NoHalf)))
  (aX_NoText:PySem.W.nsIn K mainGlobals "NoText" = some (some (.ref C_NoText)))
  (aX_NoName:PySem.W.nsIn K mainGlobals "NoName" = some (some (.ref C_NoName)))
  (aX_TooMany:PySem.W.nsIn K mainGlobals "TooMany" = some (some (.ref C_TooMany)))
  (aX_NoCover:PySem.W.nsIn K mainGlobals "NoCover" = some (some (.ref C_NoCover)))
  (aX_NoPlace:PySem.W.nsIn K mainGlobals "NoPlace" = some (some (.ref C_NoPlace)))
  (aX_NoOrder:PySem.W.nsIn K mainGlobals "NoOrder" = some (some (.ref C_NoOrder)))
  (aX_NoJoin:PySem.W.nsIn K mainGlobals "NoJoin" = some (some (.ref C_NoJoin)))
  (aX_Clash:PySem.W.nsIn K mainGlobals "Clash" = some (some (.ref C_Clash)))
  (aX_NoPaper:PySem.W.nsIn K mainGlobals "NoPaper" = some (some (.ref C_NoPaper)))
  (aX_NoPlan:PySem.W.nsIn K mainGlobals "NoPlan" = some (some (.ref C_NoPlan)))
  (aX_NoBound:PySem.W.nsIn K mainGlobals "NoBound" = some (some (.ref C_NoBound)))
  (aX_NoSaying:PySem.W.nsIn K mainGlobals "NoSaying" = some (some (.ref C_NoSaying)))
  (aX_NoMore:PySem.W.nsIn K mainGlobals "NoMore" = some (some (.ref C_NoMore)))
  (ex_HalfError:Qj K C_HalfError=true) (sX_HalfError:PySem.W.findIn K (.ref C_HalfError) "__setattr__" = some (some (.builtin "object.__setattr__"))) (gX_HalfError:PySem.W.findIn K (.ref C_HalfError) "__getattribute__" = some (some (.builtin "BaseException.__getattribute__"))) (tX_HalfError:PySem.W.findIn K (.ref C_HalfError) "__getattr__" = some none) (lX_HalfError:PySem.W.findIn K (.ref C_HalfError) "__class__" = some (some (.builtin "object.__class__")))
  (no_HalfError:X0 K C_HalfError=true)
  (kX_HalfError:PySem.W.keepIn K (.ref C_HalfError)=true)
  (ex_NoHalf:Qj K C_NoHalf=true) (sX_NoHalf:PySem.W.findIn K (.ref C_NoHalf) "__setattr__" = some (some (.builtin "object.__setattr__"))) (gX_NoHalf:PySem.W.findIn K (.ref C_NoHalf) "__getattribute__" = some (some (.builtin "BaseException.__getattribute__"))) (tX_NoHalf:PySem.W.findIn K (.ref C_NoHalf) "__getattr__" = some none) (lX_NoHalf:PySem.W.findIn K (.ref C_NoHalf) "__class__" = some (some (.builtin "object.__class__")))
  (mr_NoHalf:Di K C_NoHalf C_HalfError=true)
  (kX_NoHalf:PySem.W.keepIn K (.ref C_NoHalf)=true)
  (nX_NoHalf_word:PySem.W.findIn K (.ref C_NoHalf) "word" = some none)
  (nX_NoHalf_number:PySem.W.findIn K (.ref C_NoHalf) "number" = some none)
  (ex_NoText:Qj K C_NoText=true) (sX_NoText:PySem.W.findIn K (.ref C_NoText) "__setattr__" = some (some (.builtin "object.__setattr__"))) (gX_NoText:PySem.W.findIn K (.ref C_NoText) "__getattribute__" = some (some (.builtin "BaseException.__getattribute__"))) (tX_NoText:PySem.W.findIn K (.ref C_NoText) "__getattr__" = some none) (lX_NoText:PySem.W.findIn K (.ref C_NoText) "__class__" = some (some (.builtin "object.__class__")))
  (mr_NoText:Di K C_NoText C_HalfError=true)
  (kX_NoText:PySem.W.keepIn K (.ref C_NoText)=true)
  (nX_NoText_row:PySem.W.findIn K (.ref C_NoText) "row" = some none)
  (ex_NoName:Qj K C_NoName=true) (sX_NoName:PySem.W.findIn K (.ref C_NoName) "__setattr__" = some (some (.builtin "object.__setattr__"))) (gX_NoName:PySem.W.findIn K (.ref C_NoName) "__getattribute__" = some (some (.builtin "BaseException.__getattribute__"))) (tX_NoName:PySem.W.findIn K (.ref C_NoName) "__getattr__" = some none) (lX_NoName:PySem.W.findIn K (.ref C_NoName) "__class__" = some (some (.builtin "object.__class__")))
  (mr_NoName:Di K C_NoName C_HalfError=true)
  (kX_NoName:PySem.W.keepIn K (.ref C_NoName)=true)
  (nX_NoName_name:PySem.W.findIn K (.ref C_NoName) "name" = some none)
  (ex_TooMany:Qj K C_TooMany=true) (sX_TooMany:PySem.W.findIn K (.ref C_TooMany) "__setattr__" = some (some (.builtin "object.__setattr__"))) (gX_TooMany:PySem.W.findIn K (.ref C_TooMany) "__getattribute__" = some (some (.builtin "BaseException.__getattribute__"))) (tX_TooMany:PySem.W.findIn K (.ref C_TooMany) "__getattr__" = some none) (lX_TooMany:PySem.W.findIn K (.ref C_TooMany) "__class__" = some (some (.builtin "object.__class__")))
  (mr_TooMany:Di K C_TooMany C_HalfError=true)
  (kX_TooMany:PySem.W.keepIn K (.ref C_TooMany)=true)
  (nX_TooMany_word:PySem.W.findIn K (.ref C_TooMany) "word" = some none)
  (ex_NoCover:Qj K C_NoCover=true) (sX_NoCover:PySem.W.findIn K (.ref C_NoCover) "__setattr__" = some (some (.builtin "object.__setattr__"))) (gX_NoCover:PySem.W.findIn K (.ref C_NoCover) "__getattribute__" = some (some (.builtin "BaseException.__getattribute__"))) (tX_NoCover:PySem.W.findIn K (.ref C_NoCover) "__getattr__" = some none) (lX_NoCover:PySem.W.findIn K (.ref C_NoCover) "__class__" = some (some (.builtin "object.__class__")))
  (mr_NoCover:Di K C_NoCover C_HalfError=true)
  (no_NoCover:X0 K C_NoCover=true)
  (kX_NoCover:PySem.W.keepIn K (.ref C_NoCover)=true)
  (ex_NoPlace:Qj K C_NoPlace=true) (sX_NoPlace:PySem.W.findIn K (.ref C_NoPlace) "__setattr__" = some (some (.builtin "object.__setattr__"))) (gX_NoPlace:PySem.W.findIn K (.ref C_NoPlace) "__getattribute__" = some (some (.builtin "BaseException.__getattribute__"))) (tX_NoPlace:PySem.W.findIn K (.ref C_NoPlace) "__getattr__" = some none) (lX_NoPlace:PySem.W.findIn K (.ref C_NoPlace) "__class__" = some (some (.builtin "object.__class__")))
  (mr_NoPlace:Di K C_NoPlace C_HalfError=true)
  (kX_NoPlace:PySem.W.keepIn K (.ref C_NoPlace)=true)
  (nX_NoPlace_number:PySem.W.findIn K (.ref C_NoPlace) "number" = some none)
  (ex_NoOrder:Qj K C_NoOrder=true) (sX_NoOrder:PySem.W.findIn K (.ref C_NoOrder) "__setattr__" = some (some (.builtin "object.__setattr__"))) (gX_NoOrder:PySem.W.findIn K (.ref C_NoOrder) "__getattribute__" = some (some (.builtin "BaseException.__getattribute__"))) (tX_NoOrder:PySem.W.findIn K (.ref C_NoOrder) "__getattr__" = some none) (lX_NoOrder:PySem.W.findIn K (.ref C_NoOrder) "__class__" = some (some (.builtin "object.__class__")))
  (mr_NoOrder:Di K C_NoOrder C_HalfError=true)
  (no_NoOrder:X0 K C_NoOrder=true)
  (kX_NoOrder:PySem.W.keepIn K (.ref C_NoOrder)=true)
  (ex_NoJoin:Qj K C_NoJoin=true) (sX_NoJoin:PySem.W.findIn K (.ref C_NoJoin) "__setattr__" = some (some (.builtin "object.__setattr__"))) (gX_NoJoin:PySem.W.findIn K (.ref C_NoJoin) "__getattribute__" = some (some (.builtin "BaseException.__getattribute__"))) (tX_NoJoin:PySem.W.findIn K (.ref C_NoJoin) "__getattr__" = some none) (lX_NoJoin:PySem.W.findIn K (.ref C_NoJoin) "__class__" = some (some (.builtin "object.__class__")))
  (mr_NoJoin:Di K C_NoJoin C_HalfError=true)
  (kX_NoJoin:PySem.W.keepIn K (.ref C_NoJoin)=true)
  (nX_NoJoin_word:PySem.W.findIn K (.ref C_NoJoin) "word" = some none)
  (ex_Clash:Qj K C_Clash=true) (sX_Clash:PySem.W.findIn K (.ref C_Clash) "__setattr__" = some (some (.builtin "object.__setattr__"))) (gX_Clash:PySem.W.findIn K (.ref C_Clash) "__getattribute__" = some (some (.builtin "BaseException.__getattribute__"))) (tX_Clash:PySem.W.findIn K (.ref C_Clash) "__getattr__" = some none) (lX_Clash:PySem.W.findIn K (.ref C_Clash) "__class__" = some (some (.builtin "object.__class__")))
  (mr_Clash:Di K C_Clash C_HalfError=true)
  (kX_Clash:PySem.W.keepIn K (.ref C_Clash)=true)
  (nX_Clash_way:PySem.W.findIn K (.ref C_Clash) "way" = some none)
  (ex_NoPaper:Qj K C_NoPaper=true) (sX_NoPaper:PySem.W.findIn K (.ref C_NoPaper) "__setattr__" = some (some (.builtin "object.__setattr__"))) (gX_NoPaper:PySem.W.findIn K (.ref C_NoPaper) "__getattribute__" = some (some (.builtin "BaseException.__getattribute__"))) (tX_NoPaper:PySem.W.findIn K (.ref C_NoPaper) "__getattr__" = some none) (lX_NoPaper:PySem.W.findIn K (.ref C_NoPaper) "__class__" = some (some (.builtin "object.__class__")))
  (mr_NoPaper:Di K C_NoPaper C_HalfError=true)
  (kX_NoPaper:PySem.W.keepIn K (.ref C_NoPaper)=true)
  (nX_NoPaper_word:PySem.W.findIn K (.ref C_NoPaper) "word" = some none)
  (nX_NoPaper_row:PySem.W.findIn K (.ref C_NoPaper) "row" = some none)
  (ex_NoPlan:Qj K C_NoPlan=true) (sX_NoPlan:PySem.W.findIn K (.ref C_NoPlan) "__setattr__" = some (some (.builtin "object.__setattr__"))) (gX_NoPlan:PySem.W.findIn K (.ref C_NoPlan) "__getattribute__" = some (some (.builtin "BaseException.__getattribute__"))) (tX_NoPlan:PySem.W.findIn K (.ref C_NoPlan) "__getattr__" = some none) (lX_NoPlan:PySem.W.findIn K (.ref C_NoPlan) "__class__" = some (some (.builtin "object.__class__")))
  (mr_NoPlan:Di K C_NoPlan C_HalfError=true)
  (kX_NoPlan:PySem.W.keepIn K (.ref C_NoPlan)=true)
  (nX_NoPlan_word:PySem.W.findIn K (.ref C_NoPlan) "word" = some none)
  (nX_NoPlan_path:PySem.W.findIn K (.ref C_NoPlan) "path" = some none)
  (ex_NoBound:Qj K C_NoBound=true) (sX_NoBound:PySem.W.findIn K (.ref C_NoBound) "__setattr__" = some (some (.builtin "object.__setattr__"))) (gX_NoBound:PySem.W.findIn K (.ref C_NoBound) "__getattribute__" = some (some (.builtin "BaseException.__getattribute__"))) (tX_NoBound:PySem.W.findIn K (.ref C_NoBound) "__getattr__" = some none) (lX_NoBound:PySem.W.findIn K (.ref C_NoBound) "__class__" = some (some (.builtin "object.__class__")))
  (mr_NoBound:Di K C_NoBound C_HalfError=true)
  (kX_NoBound:PySem.W.keepIn K (.ref C_NoBound)=true)
  (nX_NoBound_word:PySem.W.findIn K (.ref C_NoBound) "word" = some none)
  (nX_NoBound_row:PySem.W.findIn K (.ref C_NoBound) "row" = some none)
  (ex_NoSaying:Qj K C_NoSaying=true) (sX_NoSaying:PySem.W.findIn K (.ref C_NoSaying) "__setattr__" = some (some (.builtin "object.__setattr__"))) (gX_NoSaying:PySem.W.findIn K (.ref C_NoSaying) "__getattribute__" = some (some (.builtin "BaseException.__getattribute__"))) (tX_NoSaying:PySem.W.findIn K (.ref C_NoSaying) "__getattr__" = some none) (lX_NoSaying:PySem.W.findIn K (.ref C_NoSaying) "__class__" = some (some (.builtin "object.__class__")))
  (mr_NoSaying:Di K C_NoSaying C_HalfError=true)
  (kX_NoSaying:PySem.W.keepIn K (.ref C_NoSaying)=true)
  (nX_NoSaying_number:PySem.W.findIn K (.ref C_NoSaying) "number" = some none)
  (ex_NoMore:Qj K C_NoMore=true) (sX_NoMore:PySem.W.findIn K (.ref C_NoMore) "__setattr__" = some (some (.builtin "object.__setattr__"))) (gX_NoMore:PySem.W.findIn K (.ref C_NoMore) "__getattribute__" = some (some (.builtin "BaseException.__getattribute__"))) (tX_NoMore:PySem.W.findIn K (.ref C_NoMore) "__getattr__" = some none) (lX_NoMore:PySem.W.findIn K (.ref C_NoMore) "__class__" = some (some (.builtin "object.__class__")))
  (mr_NoMore:Di K C_NoMore C_HalfError=true)
  (no_NoMore:X0 K C_NoMore=true)
  (kX_NoMore:PySem.W.keepIn K (.ref C_NoMore)=true)
  (ndX:([C_HalfError,C_Clash,C_NoBound,C_NoCover,C_NoHalf,C_NoJoin,C_NoMore,C_NoName,C_NoOrder,C_NoPaper,C_NoPlace,C_NoPlan,C_NoSaying,C_NoText,C_TooMany]:List Addr).Nodup)
  (a0:PySem.W.nsIn K mainGlobals "_wall" = some (some (.ref f0))) (l0:K.lookup f0=some ⟨O0,D0,.func (PySem.W.fnOf "_wall" "_wall" (Ae Nk) (Ac Nk) (A6 Nk) .none V0 E0 P0 N0 Q0 U0),S0⟩) (c0:PySem.W.codeIn K Q0 "_wall" = true) (k0:PySem.W.keepIn K (.ref f0)=true)
  (a1:PySem.W.nsIn K mainGlobals "refuse_strangers" = some (some (.ref f1))) (l1:K.lookup f1=some ⟨O1,D1,.func (PySem.W.fnOf "refuse_strangers" "refuse_strangers" (Ae Be) (Ac Be) (A6 Be) .none V1 E1 P1 N1 Q1 U1),S1⟩) (c1:PySem.W.codeIn K Q1 "refuse_strangers" = true) (k1:PySem.W.keepIn K (.ref f1)=true)
  (a2:PySem.W.nsIn K mainGlobals "behind_each" = some (some (.ref f2))) (l2:K.lookup f2=some ⟨O2,D2,.func (PySem.W.fnOf "behind_each" "behind_each" (Ae Cw) (Ac Cw) (A6 Cw) .none V2 E2 P2 N2 Q2 U2),S2⟩) (c2:PySem.W.codeIn K Q2 "behind_each" = true) (k2:PySem.W.keepIn K (.ref f2)=true)
  (a3:PySem.W.nsIn K mainGlobals "bits_of" = some (some (.ref f3))) (l3:K.lookup f3=some ⟨O3,D3,.func (PySem.W.fnOf "bits_of" "bits_of" (Ae Hk) (Ac Hk) (A6 Hk) .none V3 E3 P3 N3 Q3 U3),S3⟩) (c3:PySem.W.codeIn K Q3 "bits_of" = true) (k3:PySem.W.keepIn K (.ref f3)=true)
  (a4:PySem.W.nsIn K mainGlobals "bits_ahead" = some (some (.ref f4))) (l4:K.lookup f4=some ⟨O4,D4,.func (PySem.W.fnOf "bits_ahead" "bits_ahead" (Ae Dt) (Ac Dt) (A6 Dt) .none V4 E4 P4 N4 Q4 U4),S4⟩) (c4:PySem.W.codeIn K Q4 "bits_ahead" = true) (k4:PySem.W.keepIn K (.ref f4)=true)
  (a5:PySem.W.nsIn K mainGlobals "count" = some (some (.ref f5))) (l5:K.lookup f5=some ⟨O5,D5,.func (PySem.W.fnOf "count" "count" (Ae Kx) (Ac Kx) (A6 Kx) .none V5 E5 P5 N5 Q5 U5),S5⟩) (c5:PySem.W.codeIn K Q5 "count" = true) (k5:PySem.W.keepIn K (.ref f5)=true)
  (a6:PySem.W.nsIn K mainGlobals "is_name" = some (some (.ref f6))) (l6:K.lookup f6=some ⟨O6,D6,.func (PySem.W.fnOf "is_name" "is_name" (Ae Hf) (Ac Hf) (A6 Hf) .none V6 E6 P6 N6 Q6 U6),S6⟩) (c6:PySem.W.codeIn K Q6 "is_name" = true) (k6:PySem.W.keepIn K (.ref f6)=true)
  (a7:PySem.W.nsIn K mainGlobals "are_unlike_names" = some (some (.ref f7))) (l7:K.lookup f7=some ⟨O7,D7,.func (PySem.W.fnOf "are_unlike_names" "are_unlike_names" (Ae Bd) (Ac Bd) (A6 Bd) .none V7 E7 P7 N7 Q7 U7),S7⟩) (c7:PySem.W.codeIn K Q7 "are_unlike_names" = true) (k7:PySem.W.keepIn K (.ref f7)=true)
  (a8:PySem.W.nsIn K mainGlobals "are_tale_names" = some (some (.ref f8))) (l8:K.lookup f8=some ⟨O8,D8,.func (PySem.W.fnOf "are_tale_names" "are_tale_names" (Ae Bw) (Ac Bw) (A6 Bw) .none V8 E8 P8 N8 Q8 U8),S8⟩) (c8:PySem.W.codeIn K Q8 "are_tale_names" = true) (k8:PySem.W.keepIn K (.ref f8)=true)
  (a9:PySem.W.nsIn K mainGlobals "way_by_sayings" = some (some (.ref f9))) (l9:K.lookup f9=some ⟨O9,D9,.func (PySem.W.fnOf "way_by_sayings" "way_by_sayings" (Ae Bu) (Ac Bu) (A6 Bu) .none V9 E9 P9 N9 Q9 U9),S9⟩) (c9:PySem.W.codeIn K Q9 "way_by_sayings" = true) (k9:PySem.W.keepIn K (.ref f9)=true)
  (a10:PySem.W.nsIn K mainGlobals "_law_feed" = some (some (.ref f10))) (l10:K.lookup f10=some ⟨O10,D10,.func (PySem.W.fnOf "_law_feed" "_law_feed" (Ae Et) (Ac Et) (A6 Et) .none V10 E10 P10 N10 Q10 U10),S10⟩) (c10:PySem.W.codeIn K Q10 "_law_feed" = true) (k10:PySem.W.keepIn K (.ref f10)=true)
  (a11:PySem.W.nsIn K mainGlobals "_law_draw" = some (some (.ref f11))) (l11:K.lookup f11=some ⟨O11,D11,.func (PySem.W.fnOf "_law_draw" "_law_draw" (Ae Ep) (Ac Ep) (A6 Ep) .none V11 E11 P11 N11 Q11 U11),S11⟩) (c11:PySem.W.codeIn K Q11 "_law_draw" = true) (k11:PySem.W.keepIn K (.ref f11)=true)
  (a12:PySem.W.nsIn K mainGlobals "_law_names" = some (some (.ref f12))) (l12:K.lookup f12=some ⟨O12,D12,.func (PySem.W.fnOf "_law_names" "_law_names" (Ae Dq) (Ac Dq) (A6 Dq) .none V12 E12 P12 N12 Q12 U12),S12⟩) (c12:PySem.W.codeIn K Q12 "_law_names" = true) (k12:PySem.W.keepIn K (.ref f12)=true)
  (a13:PySem.W.nsIn K mainGlobals "_law_behind" = some (some (.ref f13))) (l13:K.lookup f13=some ⟨O13,D13,.func (PySem.W.fnOf "_law_behind" "_law_behind" (Ae Df) (Ac Df) (A6 Df) .none V13 E13 P13 N13 Q13 U13),S13⟩) (c13:PySem.W.codeIn K Q13 "_law_behind" = true) (k13:PySem.W.keepIn K (.ref f13)=true)
  (a14:PySem.W.nsIn K mainGlobals "_law_refusal" = some (some (.ref f14))) (l14:K.lookup f14=some ⟨O14,D14,.func (PySem.W.fnOf "_law_refusal" "_law_refusal" (Ae Cg) (Ac Cg) (A6 Cg) .none V14 E14 P14 N14 Q14 U14),S14⟩) (c14:PySem.W.codeIn K Q14 "_law_refusal" = true) (k14:PySem.W.keepIn K (.ref f14)=true)
  (a15:PySem.W.nsIn K mainGlobals "_law_told_by" = some (some (.ref f15))) (l15:K.lookup f15=some ⟨O15,D15,.func (PySem.W.fnOf "_law_told_by" "_law_told_by" (Ae Ci) (Ac Ci) (A6 Ci) .none V15 E15 P15 N15 Q15 U15),S15⟩) (c15:PySem.W.codeIn K Q15 "_law_told_by" = true) (k15:PySem.W.keepIn K (.ref f15)=true)
  (a16:PySem.W.nsIn K mainGlobals "_law_side" = some (some (.ref f16))) (l16:K.lookup f16=some ⟨O16,D16,.func (PySem.W.fnOf "_law_side" "_law_side" (Ae Er) (Ac Er) (A6 Er) .none V16 E16 P16 N16 Q16 U16),S16⟩) (c16:PySem.W.codeIn K Q16 "_law_side" = true) (k16:PySem.W.keepIn K (.ref f16)=true)
  (a17:PySem.W.nsIn K mainGlobals "_law_half_of" = some (some (.ref f17))) (l17:K.lookup f17=some ⟨O17,D17,.func (PySem.W.fnOf "_law_half_of" "_law_half_of" (Ae Ch) (Ac Ch) (A6 Ch) .none V17 E17 P17 N17 Q17 U17),S17⟩) (c17:PySem.W.codeIn K Q17 "_law_half_of" = true) (k17:PySem.W.keepIn K (.ref f17)=true)
  (a18:PySem.W.nsIn K mainGlobals "_law_is_way" = some (some (.ref f18))) (l18:K.lookup f18=some ⟨O18,D18,.func (PySem.W.fnOf "_law_is_way" "_law_is_way" (Ae Cv) (Ac Cv) (A6 Cv) .none V18 E18 P18 N18 Q18 U18),S18⟩) (c18:PySem.W.codeIn K Q18 "_law_is_way" = true) (k18:PySem.W.keepIn K (.ref f18)=true)
  (a19:PySem.W.nsIn K mainGlobals "_law_say" = some (some (.ref f19))) (l19:K.lookup f19=some ⟨O19,D19,.func (PySem.W.fnOf "_law_say" "_law_say" (Ae Fx) (Ac Fx) (A6 Fx) .none V19 E19 P19 N19 Q19 U19),S19⟩) (c19:PySem.W.codeIn K Q19 "_law_say" = true) (k19:PySem.W.keepIn K (.ref f19)=true)
  (a20:PySem.W.nsIn K mainGlobals "_law_take" = some (some (.ref f20))) (l20:K.lookup f20=some ⟨O20,D20,.func (PySem.W.fnOf "_law_take" "_law_take" (Ae El) (Ac El) (A6 El) .none V20 E20 P20 N20 Q20 U20),S20⟩) (c20:PySem.W.codeIn K Q20 "_law_take" = true) (k20:PySem.W.keepIn K (.ref f20)=true)
  (a21:PySem.W.nsIn K mainGlobals "_law_lay" = some (some (.ref f21))) (l21:K.lookup f21=some ⟨O21,D21,.func (PySem.W.fnOf "_law_lay" "_law_lay" (Ae Fw) (Ac Fw) (A6 Fw) .none V21 E21 P21 N21 Q21 U21),S21⟩) (c21:PySem.W.codeIn K Q21 "_law_lay" = true) (k21:PySem.W.keepIn K (.ref f21)=true)
  (a22:PySem.W.nsIn K mainGlobals "_law_back" = some (some (.ref f22))) (l22:K.lookup f22=some ⟨O22,D22,.func (PySem.W.fnOf "_law_back" "_law_back" (Ae Ek) (Ac Ek) (A6 Ek) .none V22 E22 P22 N22 Q22 U22),S22⟩) (c22:PySem.W.codeIn K Q22 "_law_back" = true) (k22:PySem.W.keepIn K (.ref f22)=true)
  (a23:PySem.W.nsIn K mainGlobals "_law_looked" = some (some (.ref f23))) (l23:K.lookup f23=some ⟨O23,D23,.func (PySem.W.fnOf "_law_looked" "_law_looked" (Ae Da) (Ac Da) (A6 Da) .none V23 E23 P23 N23 Q23 U23),S23⟩) (c23:PySem.W.codeIn K Q23 "_law_looked" = true) (k23:PySem.W.keepIn K (.ref f23)=true)
  (a24:PySem.W.nsIn K mainGlobals "_law_deed" = some (some (.ref f24))) (l24:K.lookup f24=some ⟨O24,D24,.func (PySem.W.fnOf "_law_deed" "_law_deed" (Ae Ev) (Ac Ev) (A6 Ev) .none V24 E24 P24 N24 Q24 U24),S24⟩) (c24:PySem.W.codeIn K Q24 "_law_deed" = true) (k24:PySem.W.keepIn K (.ref f24)=true)
  (a25:PySem.W.nsIn K mainGlobals "law" = some (some (.ref f25))) (l25:K.lookup f25=some ⟨O25,D25,.func (PySem.W.fnOf "law" "law" (Ae Rm) (Ac Rm) (A6 Rm) .none V25 E25 P25 N25 Q25 U25),S25⟩) (c25:PySem.W.codeIn K Q25 "law" = true) (k25:PySem.W.keepIn K (.ref f25)=true)
  (a26:PySem.W.findIn K (.ref C_Ways) "__init__" = some (some (.ref f26))) (i26:PySem.W.isFn K (.ref f26)=true) (l26:K.lookup f26=some ⟨O26,D26,.func (PySem.W.fnOf "__init__" "Ways.__init__" (Ae Es) (Ac Es) (A6 Es) .none V26 E26 P26 N26 Q26 U26),S26⟩) (c26:PySem.W.codeIn K Q26 "Ways.__init__" = true) (k26:PySem.W.keepIn K (.ref f26)=true)
  (a27:PySem.W.findIn K (.ref C_Ways) "free_names" = some (some (.ref f27))) (i27:PySem.W.isFn K (.ref f27)=true) (l27:K.lookup f27=some ⟨O27,D27,.func (PySem.W.fnOf "free_names" "Ways.free_names" (Ae Bm) (Ac Bm) (A6 Bm) .none V27 E27 P27 N27 Q27 U27),S27⟩) (c27:PySem.W.codeIn K Q27 "Ways.free_names" = true) (k27:PySem.W.keepIn K (.ref f27)=true)
  (a28:PySem.W.findIn K (.ref C_Ways) "ways_on" = some (some (.ref f28))) (i28:PySem.W.isFn K (.ref f28)=true) (l28:K.lookup f28=some ⟨O28,D28,.func (PySem.W.fnOf "ways_on" "Ways.ways_on" (Ae By) (Ac By) (A6 By) .none V28 E28 P28 N28 Q28 U28),S28⟩) (c28:PySem.W.codeIn K Q28 "Ways.ways_on" = true) (k28:PySem.W.keepIn K (.ref f28)=true)
  (a29:PySem.W.findIn K (.ref C_Keeper) "__init__" = some (some (.ref f29))) (i29:PySem.W.isFn K (.ref f29)=true) (l29:K.lookup f29=some ⟨O29,D29,.func (PySem.W.fnOf "__init__" "Keeper.__init__" (Ae Db) (Ac Db) (A6 Db) .none V29 E29 P29 N29 Q29 U29),S29⟩) (c29:PySem.W.codeIn K Q29 "Keeper.__init__" = true) (k29:PySem.W.keepIn K (.ref f29)=true)
  (a30:PySem.W.findIn K (.ref C_Keeper) "go_on" = some (some (.ref f30))) (i30:PySem.W.isFn K (.ref f30)=true) (l30:K.lookup f30=some ⟨O30,D30,.func (PySem.W.fnOf "go_on" "Keeper.go_on" (Ae Cm) (Ac Cm) (A6 Cm) .none V30 E30 P30 N30 Q30 U30),S30⟩) (c30:PySem.W.codeIn K Q30 "Keeper.go_on" = true) (k30:PySem.W.keepIn K (.ref f30)=true)
  (a31:PySem.W.findIn K (.ref C_Keeper) "say" = some (some (.ref f31))) (i31:PySem.W.isFn K (.ref f31)=true) (l31:K.lookup f31=some ⟨O31,D31,.func (PySem.W.fnOf "say" "Keeper.say" (Ae Du) (Ac Du) (A6 Du) .none V31 E31 P31 N31 Q31 U31),S31⟩) (c31:PySem.W.codeIn K Q31 "Keeper.say" = true) (k31:PySem.W.keepIn K (.ref f31)=true)
  (a32:PySem.W.findIn K (.ref C_Keeper) "take" = some (some (.ref f32))) (i32:PySem.W.isFn K (.ref f32)=true) (l32:K.lookup f32=some ⟨O32,D32,.func (PySem.W.fnOf "take" "Keeper.take" (Ae Dd) (Ac Dd) (A6 Dd) .none V32 E32 P32 N32 Q32 U32),S32⟩) (c32:PySem.W.codeIn K Q32 "Keeper.take" = true) (k32:PySem.W.keepIn K (.ref f32)=true)
  (a33:PySem.W.findIn K (.ref C_Keeper) "undo" = some (some (.ref f33))) (i33:PySem.W.isFn K (.ref f33)=true) (l33:K.lookup f33=some ⟨O33,D33,.func (PySem.W.fnOf "undo" "Keeper.undo" (Ae Dg) (Ac Dg) (A6 Dg) .none V33 E33 P33 N33 Q33 U33),S33⟩) (c33:PySem.W.codeIn K Q33 "Keeper.undo" = true) (k33:PySem.W.keepIn K (.ref f33)=true)
  (a34:PySem.W.findIn K (.ref C_Keeper) "redo" = some (some (.ref f34))) (i34:PySem.W.isFn K (.ref f34)=true) (l34:K.lookup f34=some ⟨O34,D34,.func (PySem.W.fnOf "redo" "Keeper.redo" (Ae Dc) (Ac Dc) (A6 Dc) .none V34 E34 P34 N34 Q34 U34),S34⟩) (c34:PySem.W.codeIn K Q34 "Keeper.redo" = true) (k34:PySem.W.keepIn K (.ref f34)=true)
  (a35:PySem.W.findIn K (.ref C_Keeper) "numbers" = some (some (.ref f35))) (i35:PySem.W.isFn K (.ref f35)=true) (l35:K.lookup f35=some ⟨O35,D35,.func (PySem.W.fnOf "numbers" "Keeper.numbers" (Ae Bt) (Ac Bt) (A6 Bt) .none V35 E35 P35 N35 Q35 U35),S35⟩) (c35:PySem.W.codeIn K Q35 "Keeper.numbers" = true) (k35:PySem.W.keepIn K (.ref f35)=true)
  (a36:PySem.W.findIn K (.ref C_Keeper) "saying" = some (some (.ref f36))) (i36:PySem.W.isFn K (.ref f36)=true) (l36:K.lookup f36=some ⟨O36,D36,.func (PySem.W.fnOf "saying" "Keeper.saying" (Ae C4) (Ac C4) (A6 C4) .none V36 E36 P36 N36 Q36 U36),S36⟩) (c36:PySem.W.codeIn K Q36 "Keeper.saying" = true) (k36:PySem.W.keepIn K (.ref f36)=true)
  (a37:PySem.W.findIn K (.ref C_Keeper) "half" = some (some (.ref f37))) (i37:PySem.W.isFn K (.ref f37)=true) (l37:K.lookup f37=some ⟨O37,D37,.func (PySem.W.fnOf "half" "Keeper.half" (Ae De) (Ac De) (A6 De) .none V37 E37 P37 N37 Q37 U37),S37⟩) (c37:PySem.W.codeIn K Q37 "Keeper.half" = true) (k37:PySem.W.keepIn K (.ref f37)=true)
  (a38:PySem.W.findIn K (.ref C_Keeper) "many" = some (some (.ref f38))) (i38:PySem.W.isFn K (.ref f38)=true) (l38:K.lookup f38=some ⟨O38,D38,.func (PySem.W.fnOf "many" "Keeper.many" (Ae Ef) (Ac Ef) (A6 Ef) .none V38 E38 P38 N38 Q38 U38),S38⟩) (c38:PySem.W.codeIn K Q38 "Keeper.many" = true) (k38:PySem.W.keepIn K (.ref f38)=true)
  (a39:PySem.W.findIn K (.ref C_Keeper) "best" = some (some (.ref f39))) (i39:PySem.W.isFn K (.ref f39)=true) (l39:K.lookup f39=some ⟨O39,D39,.func (PySem.W.fnOf "best" "Keeper.best" (Ae Dz) (Ac Dz) (A6 Dz) .none V39 E39 P39 N39 Q39 U39),S39⟩) (c39:PySem.W.codeIn K Q39 "Keeper.best" = true) (k39:PySem.W.keepIn K (.ref f39)=true)
  (a40:PySem.W.findIn K (.ref C_Keeper) "knows" = some (some (.ref f40))) (i40:PySem.W.isFn K (.ref f40)=true) (l40:K.lookup f40=some ⟨O40,D40,.func (PySem.W.fnOf "knows" "Keeper.knows" (Ae Cj) (Ac Cj) (A6 Cj) .none V40 E40 P40 N40 Q40 U40),S40⟩) (c40:PySem.W.codeIn K Q40 "Keeper.knows" = true) (k40:PySem.W.keepIn K (.ref f40)=true)
  (a41:PySem.W.findIn K (.ref C_Keeper) "way_kept" = some (some (.ref f41))) (i41:PySem.W.isFn K (.ref f41)=true) (l41:K.lookup f41=some ⟨O41,D41,.func (PySem.W.fnOf "way_kept" "Keeper.way_kept" (Ae Bl) (Ac Bl) (A6 Bl) .none V41 E41 P41 N41 Q41 U41),S41⟩) (c41:PySem.W.codeIn K Q41 "Keeper.way_kept" = true) (k41:PySem.W.keepIn K (.ref f41)=true)
  (a42:PySem.W.findIn K (.ref C_Keeper) "lead" = some (some (.ref f42))) (i42:PySem.W.isFn K (.ref f42)=true) (l42:K.lookup f42=some ⟨O42,D42,.func (PySem.W.fnOf "lead" "Keeper.lead" (Ae Ct) (Ac Ct) (A6 Ct) .none V42 E42 P42 N42 Q42 U42),S42⟩) (c42:PySem.W.codeIn K Q42 "Keeper.lead" = true) (k42:PySem.W.keepIn K (.ref f42)=true)
  (a43:PySem.W.findIn K (.ref C_NoHalf) "__init__" = some (some (.ref f43))) (i43:PySem.W.isFn K (.ref f43)=true) (l43:K.lookup f43=some ⟨O43,D43,.func (PySem.W.fnOf "__init__" "NoHalf.__init__" (Ae Cs) (Ac Cs) (A6 Cs) .none V43 E43 P43 N43 Q43 U43),S43⟩) (c43:PySem.W.codeIn K Q43 "NoHalf.__init__" = true) (k43:PySem.W.keepIn K (.ref f43)=true)
  (a44:PySem.W.findIn K (.ref C_NoName) "__init__" = some (some (.ref f44))) (i44:PySem.W.isFn K (.ref f44)=true) (l44:K.lookup f44=some ⟨O44,D44,.func (PySem.W.fnOf "__init__" "NoName.__init__" (Ae Dh) (Ac Dh) (A6 Dh) .none V44 E44 P44 N44 Q44 U44),S44⟩) (c44:PySem.W.codeIn K Q44 "NoName.__init__" = true) (k44:PySem.W.keepIn K (.ref f44)=true)
  (a45:PySem.W.findIn K (.ref C_TooMany) "__init__" = some (some (.ref f45))) (i45:PySem.W.isFn K (.ref f45)=true) (l45:K.lookup f45=some ⟨O45,D45,.func (PySem.W.fnOf "__init__" "TooMany.__init__" (Ae Cn) (Ac Cn) (A6 Cn) .none V45 E45 P45 N45 Q45 U45),S45⟩) (c45:PySem.W.codeIn K Q45 "TooMany.__init__" = true) (k45:PySem.W.keepIn K (.ref f45)=true)
  (a46:PySem.W.findIn K (.ref C_Clash) "__init__" = some (some (.ref f46))) (i46:PySem.W.isFn K (.ref f46)=true) (l46:K.lookup f46=some ⟨O46,D46,.func (PySem.W.fnOf "__init__" "Clash.__init__" (Ae Ds) (Ac Ds) (A6 Ds) .none V46 E46 P46 N46 Q46 U46),S46⟩) (c46:PySem.W.codeIn K Q46 "Clash.__init__" = true) (k46:PySem.W.keepIn K (.ref f46)=true)
  (a47:PySem.W.findIn K (.ref C_NoSaying) "__init__" = some (some (.ref f47))) (i47:PySem.W.isFn K (.ref f47)=true) (l47:K.lookup f47=some ⟨O47,D47,.func (PySem.W.fnOf "__init__" "NoSaying.__init__" (Ae C6) (Ac C6) (A6 C6) .none V47 E47 P47 N47 Q47 U47),S47⟩) (c47:PySem.W.codeIn K Q47 "NoSaying.__init__" = true) (k47:PySem.W.keepIn K (.ref f47)=true)
  {t0:Tok} (g0:PySem.W.nsIn K mainGlobals "MOST_NAMES" = some (some (.int 10 t0)))
  {t1:Tok} (g1:PySem.W.nsIn K mainGlobals "MOST_SAYINGS" = some (some (.int 60 t1)))
  {t2:Tok} (g2:PySem.W.nsIn K mainGlobals "MOST_SIGNS" = some (some (.int 8 t2)))
  {t3:Tok} (g3:PySem.W.nsIn K mainGlobals "SMALL_LETTERS" = some (some (.str "abcdefghijklmnopqrstuvwxyz" t3)))
  (z0:PySem.W.nsIn K mainGlobals "ValueError" = some none)
  (z1:PySem.W.nsIn K mainGlobals "all" = some none)
  (z2:PySem.W.nsIn K mainGlobals "bool" = some none)
  (z3:PySem.W.nsIn K mainGlobals "dict" = some none)
  (z4:PySem.W.nsIn K mainGlobals "enumerate" = some none)
  (z5:PySem.W.nsIn K mainGlobals "int" = some none)
  (z6:PySem.W.nsIn K mainGlobals "isinstance" = some none)
  (z7:PySem.W.nsIn K mainGlobals "len" = some none)
  (z8:PySem.W.nsIn K mainGlobals "list" = some none)
  (z9:PySem.W.nsIn K mainGlobals "range" = some none)
  (z10:PySem.W.nsIn K mainGlobals "repr" = some none)
  (z11:PySem.W.nsIn K mainGlobals "set" = some none)
  (z12:PySem.W.nsIn K mainGlobals "sorted" = some none)
  (z13:PySem.W.nsIn K mainGlobals "str" = some none)
  (z14:PySem.W.nsIn K mainGlobals "sum" = some none)
  (z15:PySem.W.nsIn K mainGlobals "tuple" = some none)
  : ∃ fd:FuncData,(∀(s:Shared) (v:Value),BindsTo s fd ⟨[v],[]⟩ [("_law_script",v)])/\∀ base:Heap,K.In base->base.Ns mainGlobals mg->FnOk l.prog w K mg base CX0 8 fa fd ["_law_script"] (spLaw K):=by
 have e:=hfa.symm.trans (A05 X G a25)
 cases e
 have T:Fp mg:=⟨⟨_,A05 X G g0,⟨_,rfl⟩⟩,⟨_,A05 X G g1,⟨_,rfl⟩⟩,⟨_,A05 X G g2,⟨_,rfl⟩⟩,⟨_,A05 X G g3,⟨_,rfl⟩⟩,A10 X G z0,A10 X G z1,A10 X G z2,A10 X G z3,A10 X G z4,A10 X G z5,A10 X G z6,A10 X G z7,A10 X G z8,A10 X G z9,A10 X G z10,A10 X G z11,A10 X G z12,A10 X G z13,A10 X G z14,A10 X G z15⟩
 have F0:=Av (st:=Nk) l0 c0 k0
 have b0:Binds K _ ["k"] []:=Fd F0 λ_ _ _ _ _ _ _=>rfl
 have F1:=Av (st:=Be) l1 c1 k1
 have b1:Binds K _ ["half","asked"] []:=Eb F1 λ_ _ _ _ _ _ _ _=>rfl
 have F2:=Av (st:=Cw) l2 c2 k2
 have b2:Binds K _ ["half"] []:=Fd F2 λ_ _ _ _ _ _ _=>rfl
 have F3:=Av (st:=Hk) l3 c3 k3
 have b3:Binds K _ ["names"] []:=Fd F3 λ_ _ _ _ _ _ _=>rfl
 have F4:=Av (st:=Dt) l4 c4 k4
 have b4:Binds K _ ["half","bits"] []:=Eb F4 λ_ _ _ _ _ _ _ _=>rfl
 have F5:=Av (st:=Kx) l5 c5 k5
 have b5:Binds K _ ["half"] []:=Fd F5 λ_ _ _ _ _ _ _=>rfl
 have F6:=Av (st:=Hf) l6 c6 k6
 have b6:Binds K _ ["thing"] []:=Fd F6 λ_ _ _ _ _ _ _=>rfl
 have F7:=Av (st:=Bd) l7 c7 k7
 have b7:Binds K _ ["thing"] []:=Fd F7 λ_ _ _ _ _ _ _=>rfl
 have F8:=Av (st:=Bw) l8 c8 k8
 have b8:Binds K _ ["thing"] []:=Fd F8 λ_ _ _ _ _ _ _=>rfl
 have F9:=Av (st:=Bu) l9 c9 k9
 have b9:Binds K _ ["sayings","start","goal"] []:=Kj F9 λ_ _ _ _ _ _ _ _ _=>rfl
 have F10:=Av (st:=Et) l10 c10 k10
 have b10:Binds K _ ["_law_script"] []:=Fd F10 λ_ _ _ _ _ _ _=>rfl
 have F11:=Av (st:=Ep) l11 c11 k11
 have b11:Binds K _ ["_law_feed_here","_law_many"] []:=Eb F11 λ_ _ _ _ _ _ _ _=>rfl
 have F12:=Av (st:=Dq) l12 c12 k12
 have b12:Binds K _ ["_law_feed_here","_law_many"] []:=Eb F12 λ_ _ _ _ _ _ _ _=>rfl
 have F13:=Av (st:=Df) l13 c13 k13
 have b13:Binds K _ ["_law_half","_law_name"] []:=Eb F13 λ_ _ _ _ _ _ _ _=>rfl
 have F14:=Av (st:=Cg) l14 c14 k14
 have b14:Binds K _ ["_law_e"] []:=Fd F14 λ_ _ _ _ _ _ _=>rfl
 have F15:=Av (st:=Ci) l15 c15 k15
 have b15:Binds K _ ["_law_keeper","_law_word","_law_one","_law_other"] []:=ag4 F15 λ_ _ _ _ _ _ _ _ _ _=>rfl
 have F16:=Av (st:=Er) l16 c16 k16
 have b16:Binds K _ ["_law_names_here","_law_keeper"] []:=Eb F16 λ_ _ _ _ _ _ _ _=>rfl
 have F17:=Av (st:=Ch) l17 c17 k17
 have b17:Binds K _ ["_law_side_here"] []:=Fd F17 λ_ _ _ _ _ _ _=>rfl
 have F18:=Av (st:=Cv) l18 c18 k18
 have b18:Binds K _ ["_law_side_here","_law_way","_law_name","_law_other"] []:=ag4 F18 λ_ _ _ _ _ _ _ _ _ _=>rfl
 have F19:=Av (st:=Fx) l19 c19 k19
 have b19:Binds K _ ["_law_side_here","_law_name","_law_other"] []:=Kj F19 λ_ _ _ _ _ _ _ _ _=>rfl
 have F20:=Av (st:=El) l20 c20 k20
 have b20:Binds K _ ["_law_side_here","_law_number"] []:=Eb F20 λ_ _ _ _ _ _ _ _=>rfl
 have F21:=Av (st:=Fw) l21 c21 k21
 have b21:Binds K _ ["_law_side_here","_law_deed_here","_law_is_said"] []:=Kj F21 λ_ _ _ _ _ _ _ _ _=>rfl
 have F22:=Av (st:=Ek) l22 c22 k22
 have b22:Binds K _ ["_law_side_here","_law_word"] []:=Eb F22 λ_ _ _ _ _ _ _ _=>rfl
 have F23:=Av (st:=Da) l23 c23 k23
 have b23:Binds K _ ["_law_side_here"] []:=Fd F23 λ_ _ _ _ _ _ _=>rfl
 have F24:=Av (st:=Ev) l24 c24 k24
 have b24:Binds K _ ["_law_feed_here","_law_side_here"] []:=Eb F24 λ_ _ _ _ _ _ _ _=>rfl
 have F25:=Av (st:=Rm) l25 c25 k25
 have F26:=Av (st:=Es) l26 c26 k26
 have b26:Binds K _ ["self","half"] []:=Eb F26 λ_ _ _ _ _ _ _ _=>rfl
 have F27:=Av (st:=Bm) l27 c27 k27
 have b27:Binds K _ ["self","left"] []:=Eb F27 λ_ _ _ _ _ _ _ _=>rfl
 have F28:=Av (st:=By) l28 c28 k28
 have b28:Binds K _ ["self","left"] []:=Eb F28 λ_ _ _ _ _ _ _ _=>rfl
 have F29:=Av (st:=Db) l29 c29 k29
 have b29:Binds K _ ["self","names"] []:=Eb F29 λ_ _ _ _ _ _ _ _=>rfl
 have F30:=Av (st:=Cm) l30 c30 k30
 have b30:Binds K _ ["self","kept","following"] []:=Kj F30 λ_ _ _ _ _ _ _ _ _=>rfl
 have F31:=Av (st:=Du) l31 c31 k31
 have b31:Binds K _ ["self","name","other"] []:=Kj F31 λ_ _ _ _ _ _ _ _ _=>rfl
 have F32:=Av (st:=Dd) l32 c32 k32
 have b32:Binds K _ ["self","number"] []:=Eb F32 λ_ _ _ _ _ _ _ _=>rfl
 have F33:=Av (st:=Dg) l33 c33 k33
 have b33:Binds K _ ["self"] []:=Fd F33 λ_ _ _ _ _ _ _=>rfl
 have F34:=Av (st:=Dc) l34 c34 k34
 have b34:Binds K _ ["self"] []:=Fd F34 λ_ _ _ _ _ _ _=>rfl
 have F35:=Av (st:=Bt) l35 c35 k35
 have b35:Binds K _ ["self"] []:=Fd F35 λ_ _ _ _ _ _ _=>rfl
 have F36:=Av (st:=C4) l36 c36 k36
 have b36:Binds K _ ["self","number"] []:=Eb F36 λ_ _ _ _ _ _ _ _=>rfl
 have F37:=Av (st:=De) l37 c37 k37
 have b37:Binds K _ ["self"] []:=Fd F37 λ_ _ _ _ _ _ _=>rfl
 have F38:=Av (st:=Ef) l38 c38 k38
 have b38:Binds K _ ["self"] []:=Fd F38 λ_ _ _ _ _ _ _=>rfl
 have F39:=Av (st:=Dz) l39 c39 k39
 have b39:Binds K _ ["self"] []:=Fd F39 λ_ _ _ _ _ _ _=>rfl
 have F40:=Av (st:=Cj) l40 c40 k40
 have b40:Binds K _ ["self","name","other"] []:=Kj F40 λ_ _ _ _ _ _ _ _ _=>rfl
 have F41:=Av (st:=Bl) l41 c41 k41
 have b41:Binds K _ ["self","name","other"] []:=Kj F41 λ_ _ _ _ _ _ _ _ _=>rfl
 have F42:=Av (st:=Ct) l42 c42 k42
 have b42:Binds K _ ["self","name","other"] []:=Kj F42 λ_ _ _ _ _ _ _ _ _=>rfl
 have F43:=Av (st:=Cs) l43 c43 k43
 have b43:Binds K _ ["self","word","number"] []:=Kj F43 λ_ _ _ _ _ _ _ _ _=>rfl
 have F44:=Av (st:=Dh) l44 c44 k44
 have b44:Binds K _ ["self","name"] []:=Eb F44 λ_ _ _ _ _ _ _ _=>rfl
 have F45:=Av (st:=Cn) l45 c45 k45
 have b45:Binds K _ ["self","word"] []:=Eb F45 λ_ _ _ _ _ _ _ _=>rfl
 have F46:=Av (st:=Ds) l46 c46 k46
 have b46:Binds K _ ["self","way"] []:=Eb F46 λ_ _ _ _ _ _ _ _=>rfl
 have F47:=Av (st:=C6) l47 c47 k47
 have b47:Binds K _ ["self","number"] []:=Eb F47 λ_ _ _ _ _ _ _ _=>rfl
 have k_Ways:Ji K C_Ways:=⟨⟨pg_Ways,hd_Ways,po_Ways,sa_Ways⟩,n_Ways_names,n_Ways_bits,n_Ways_ahead,n_Ways_full,n_Ways_known⟩
 have k_Keeper:Aq K C_Keeper:=⟨⟨pg_Keeper,hd_Keeper,po_Keeper,sa_Keeper⟩,n_Keeper_names,n_Keeper_now,n_Keeper_past,n_Keeper_undone⟩
 have x_HalfError:Ao K mg C_HalfError C_HalfError:=⟨⟨ex_HalfError,sX_HalfError,gX_HalfError,tX_HalfError,lX_HalfError,cg,ct⟩,A05 X G aX_HalfError,⟨⟨ex_HalfError,sX_HalfError,gX_HalfError,tX_HalfError,lX_HalfError,cg,ct⟩,no_HalfError,kX_HalfError,A05 X G aX_HalfError⟩⟩
 have x_NoHalf:L9 K mg C_NoHalf C_HalfError:=⟨⟨ex_NoHalf,sX_NoHalf,gX_NoHalf,tX_NoHalf,lX_NoHalf,cg,ct⟩,A05 X G aX_NoHalf,mr_NoHalf,nX_NoHalf_word,nX_NoHalf_number⟩
 have x_NoText:Qk K mg C_NoText C_HalfError:=⟨⟨ex_NoText,sX_NoText,gX_NoText,tX_NoText,lX_NoText,cg,ct⟩,A05 X G aX_NoText,mr_NoText,nX_NoText_row⟩
 have x_NoName:Bv K mg C_NoName C_HalfError:=⟨⟨ex_NoName,sX_NoName,gX_NoName,tX_NoName,lX_NoName,cg,ct⟩,A05 X G aX_NoName,mr_NoName,nX_NoName_name⟩
 have x_TooMany:Ge K mg C_TooMany C_HalfError:=⟨⟨ex_TooMany,sX_TooMany,gX_TooMany,tX_TooMany,lX_TooMany,cg,ct⟩,A05 X G aX_TooMany,mr_TooMany,nX_TooMany_word⟩
 have x_NoCover:Ms K mg C_NoCover C_HalfError:=⟨⟨ex_NoCover,sX_NoCover,gX_NoCover,tX_NoCover,lX_NoCover,cg,ct⟩,A05 X G aX_NoCover,mr_NoCover,⟨⟨ex_NoCover,sX_NoCover,gX_NoCover,tX_NoCover,lX_NoCover,cg,ct⟩,no_NoCover,kX_NoCover,A05 X G aX_NoCover⟩⟩
 have x_NoPlace:Nj K mg C_NoPlace C_HalfError:=⟨⟨ex_NoPlace,sX_NoPlace,gX_NoPlace,tX_NoPlace,lX_NoPlace,cg,ct⟩,A05 X G aX_NoPlace,mr_NoPlace,nX_NoPlace_number⟩
 have x_NoOrder:Nx K mg C_NoOrder C_HalfError:=⟨⟨ex_NoOrder,sX_NoOrder,gX_NoOrder,tX_NoOrder,lX_NoOrder,cg,ct⟩,A05 X G aX_NoOrder,mr_NoOrder,⟨⟨ex_NoOrder,sX_NoOrder,gX_NoOrder,tX_NoOrder,lX_NoOrder,cg,ct⟩,no_NoOrder,kX_NoOrder,A05 X G aX_NoOrder⟩⟩
 have x_NoJoin:Pq K mg C_NoJoin C_HalfError:=⟨⟨ex_NoJoin,sX_NoJoin,gX_NoJoin,tX_NoJoin,lX_NoJoin,cg,ct⟩,A05 X G aX_NoJoin,mr_NoJoin,nX_NoJoin_word⟩
 have x_Clash:Im K mg C_Clash C_HalfError:=⟨⟨ex_Clash,sX_Clash,gX_Clash,tX_Clash,lX_Clash,cg,ct⟩,A05 X G aX_Clash,mr_Clash,nX_Clash_way⟩
 have x_NoPaper:Mn K mg C_NoPaper C_HalfError:=⟨⟨ex_NoPaper,sX_NoPaper,gX_NoPaper,tX_NoPaper,lX_NoPaper,cg,ct⟩,A05 X G aX_NoPaper,mr_NoPaper,nX_NoPaper_word,nX_NoPaper_row⟩
 have x_NoPlan:Pr K mg C_NoPlan C_HalfError:=⟨⟨ex_NoPlan,sX_NoPlan,gX_NoPlan,tX_NoPlan,lX_NoPlan,cg,ct⟩,A05 X G aX_NoPlan,mr_NoPlan,nX_NoPlan_word,nX_NoPlan_path⟩
 have x_NoBound:Nz K mg C_NoBound C_HalfError:=⟨⟨ex_NoBound,sX_NoBound,gX_NoBound,tX_NoBound,lX_NoBound,cg,ct⟩,A05 X G aX_NoBound,mr_NoBound,nX_NoBound_word,nX_NoBound_row⟩
 have x_NoSaying:Dv K mg C_NoSaying C_HalfError:=⟨⟨ex_NoSaying,sX_NoSaying,gX_NoSaying,tX_NoSaying,lX_NoSaying,cg,ct⟩,A05 X G aX_NoSaying,mr_NoSaying,nX_NoSaying_number⟩
 have x_NoMore:Hc K mg C_NoMore C_HalfError:=⟨⟨ex_NoMore,sX_NoMore,gX_NoMore,tX_NoMore,lX_NoMore,cg,ct⟩,A05 X G aX_NoMore,mr_NoMore,⟨⟨ex_NoMore,sX_NoMore,gX_NoMore,tX_NoMore,lX_NoMore,cg,ct⟩,no_NoMore,kX_NoMore,A05 X G aX_NoMore⟩⟩
 refine⟨PySem.W.fnOf "law" "law" (Ae Rm) (Ac Rm) (A6 Rm) .none V25 E25 P25 N25 Q25 U25,λs v=>.of_eq rfl,λbase _ _=>?_⟩
 have Y5:Fnd l.prog w K mg base 1 "_wall" ["k"] (Rc K):=⟨_,_,a88 F0 T,A05 X G a0,k0,b0⟩
 have Cy:Fnd l.prog w K mg base 1 "behind_each" ["half"] (Fa K):=⟨_,_,Om F2 T,A05 X G a2,k2,b2⟩
 have Np:Fnd l.prog w K mg base 1 "bits_of" ["names"] (La K):=⟨_,_,Xm F3 T,A05 X G a3,k3,b3⟩
 have Nf:Fnd l.prog w K mg base 1 "is_name" ["thing"] (L4 K):=⟨_,_,Xo F6 T,A05 X G a6,k6,b6⟩
 have Fn:Fnd l.prog w K mg base 1 "way_by_sayings" ["sayings","start","goal"] (En K):=⟨_,_,L7 F9 T,A05 X G a9,k9,b9⟩
 have K5:Fnd l.prog w K mg base 1 "_law_feed" ["_law_script"] (Iq K):=⟨_,_,Tg F10 T,A05 X G a10,k10,b10⟩
 have Ak:Fnd l.prog w K mg base 1 "_law_draw" ["_law_feed_here","_law_many"] (Fg K):=⟨_,_,Sc F11 T,A05 X G a11,k11,b11⟩
 have Hq:Fnd l.prog w K mg base 1 "_law_behind" ["_law_half","_law_name"] (Go K):=⟨_,_,Oo F13 T,A05 X G a13,k13,b13⟩
 have h__law_refusal:aF5 l.prog w K mg base 1 "_law_refusal" ["_law_e"] (G8 C_NoName C_Clash C_NoSaying C_TooMany C_NoMore K):=⟨_,_,Ls F14 T x_HalfError x_NoHalf x_NoText x_NoName x_TooMany x_NoCover x_NoPlace x_NoOrder x_NoJoin x_Clash x_NoPaper x_NoPlan x_NoBound x_NoSaying x_NoMore ndX,A05 X G a14,k14,b14⟩
 have Gb:Fnd l.prog w K mg base 1 "_law_side" ["_law_names_here","_law_keeper"] (Iv K):=⟨_,_,Tr F16 T,A05 X G a16,k16,b16⟩
 have Co:Fnd l.prog w K mg base 1 "_law_half_of" ["_law_side_here"] (Eg K):=⟨_,_,Nc F17 T,A05 X G a17,k17,b17⟩
 have Hr:Fnd l.prog w K mg base 1 "_law_is_way" ["_law_side_here","_law_way","_law_name","_law_other"] (Gs K):=⟨_,_,Oq F18 T,A05 X G a18,k18,b18⟩
 have Kw:Fnd l.prog w K mg base 1 "_law_lay" ["_law_side_here","_law_deed_here","_law_is_said"] (K8 K):=⟨_,_,Ub F21 T,A05 X G a21,k21,b21⟩
 have C2:Mtd l.prog w K mg base 1 C_Ways "free_names" ["self","left"] (Cq C_Ways K):=⟨_,_,Ki F27 T k_Ways,⟨a27,i27,k27⟩,b27⟩
 have Ck:Mtd l.prog w K mg base 1 C_Keeper "go_on" ["self","kept","following"] (Dy C_Keeper K):=⟨_,_,Mr F30 T k_Keeper,⟨a30,i30,k30⟩,b30⟩
 have Ht:T7 l.prog w K mg base 1 C_Keeper "undo" ["self"] (Gf C_Keeper C_NoMore K):=⟨_,_,Og F33 T k_Keeper x_HalfError x_NoName x_NoMore,⟨a33,i33,k33⟩,b33⟩
 have Hm:T7 l.prog w K mg base 1 C_Keeper "redo" ["self"] (G1 C_Keeper C_NoMore K):=⟨_,_,Nt F34 T k_Keeper x_HalfError x_NoName x_NoMore,⟨a34,i34,k34⟩,b34⟩
 have Fk:Mtd l.prog w K mg base 1 C_Keeper "numbers" ["self"] (Eo C_Keeper K):=⟨_,_,Lc F35 T k_Keeper,⟨a35,i35,k35⟩,b35⟩
 have Ah:Mtd l.prog w K mg base 1 C_Keeper "half" ["self"] (B8 C_Keeper K):=⟨_,_,Oz F37 T k_Keeper,⟨a37,i37,k37⟩,b37⟩
 have ab5:Mkx l.prog w K mg base 1 C_NoHalf "NoHalf" ["self","word","number"] (spX C_NoHalf ["word","number"]):=⟨_,_,Pf F43 T x_HalfError x_NoHalf,x_NoHalf.xc,a43,i43,kX_NoHalf,A05 X G aX_NoHalf,b43⟩
 have Hn:Mkx l.prog w K mg base 1 C_NoName "NoName" ["self","name"] (spX C_NoName ["name"]):=⟨_,_,Ou F44 T x_HalfError x_NoName,x_NoName.xc,a44,i44,kX_NoName,A05 X G aX_NoName,b44⟩
 have Gu:Mkx l.prog w K mg base 1 C_TooMany "TooMany" ["self","word"] (spX C_TooMany ["word"]):=⟨_,_,Mx F45 T x_HalfError x_TooMany,x_TooMany.xc,a45,i45,kX_TooMany,A05 X G aX_TooMany,b45⟩
 have Il:Mkx l.prog w K mg base 1 C_Clash "Clash" ["self","way"] (spX C_Clash ["way"]):=⟨_,_,R4 F46 T x_HalfError x_Clash,x_Clash.xc,a46,i46,kX_Clash,A05 X G aX_Clash,b46⟩
 have G6:Mkx l.prog w K mg base 1 C_NoSaying "NoSaying" ["self","number"] (spX C_NoSaying ["number"]):=⟨_,_,Lq F47 T x_HalfError x_NoSaying,x_NoSaying.xc,a47,i47,kX_NoSaying,A05 X G aX_NoSaying,b47⟩
 have J1:Fnd l.prog w K mg base 2 "bits_ahead" ["half","bits"] (Hz K):=⟨_,_,Qr F4 T Cy,A05 X G a4,k4,b4⟩
 have Ec:Fnd l.prog w K mg base 2 "are_unlike_names" ["thing"] (Cb K):=⟨_,_,K7 F7 T Nf,A05 X G a7,k7,b7⟩
 have J3:Fnd l.prog w K mg base 2 "_law_names" ["_law_feed_here","_law_many"] (Hy K):=⟨_,_,R3 F12 T Ak,A05 X G a12,k12,b12⟩
 have ad5:Mtd l.prog w K mg base 2 C_Keeper "best" ["self"] (Jq C_Keeper K):=⟨_,_,Pn F39 T k_Keeper Y5,⟨a39,i39,k39⟩,b39⟩
 have Bn:Mtd l.prog w K mg base 2 C_Keeper "way_kept" ["self","name","other"] (Cp C_Keeper K):=⟨_,_,Kf F41 T k_Keeper Fn Ah,⟨a41,i41,k41⟩,b41⟩
 have At:av9 l.prog w K mg base 3 "refuse_strangers" ["half","asked"] (Bh C_NoName K):=⟨_,_,Jl F1 T x_HalfError x_NoName Hn,A05 X G a1,k1,b1⟩
 have Fi:Fnd l.prog w K mg base 3 "are_tale_names" ["thing"] (Ew K):=⟨_,_,Kt F8 T Ec,A05 X G a8,k8,b8⟩
 have Jt:Mkd l.prog w K mg base 3 C_Ways "Ways" ["self","half"] (J6 C_Ways K):=⟨_,_,Td F26 T k_Ways Np J1,⟨mk_Ways,a26,i26,kc_Ways⟩,A05 X G aC_Ways,b26⟩
 have C8:T7 l.prog w K mg base 3 C_Keeper "saying" ["self","number"] (Cz C_Keeper C_NoSaying K):=⟨_,_,Kv F36 T k_Keeper x_HalfError x_NoName x_NoSaying G6,⟨a36,i36,k36⟩,b36⟩
 have Ea:Mkd l.prog w K mg base 4 C_Keeper "Keeper" ["self","names"] (Gw C_Keeper K):=⟨_,_,Pb F29 T k_Keeper Fi,⟨mk_Keeper,a29,i29,kc_Keeper⟩,A05 X G aC_Keeper,b29⟩
 have J8:T7 l.prog w K mg base 4 C_Keeper "say" ["self","name","other"] (Gq C_Keeper C_NoName C_Clash C_TooMany K):=⟨_,_,Pk F31 T k_Keeper x_HalfError x_NoName x_TooMany x_Clash Ck Ah Bn Gu Il At,⟨a31,i31,k31⟩,b31⟩
 have Ia:T7 l.prog w K mg base 4 C_Keeper "take" ["self","number"] (G9 C_Keeper C_NoSaying K):=⟨_,_,Md F32 T k_Keeper x_HalfError x_NoName x_NoSaying Ck C8,⟨a32,i32,k32⟩,b32⟩
 have Gr:T7 l.prog w K mg base 4 C_Keeper "knows" ["self","name","other"] (Fj C_Keeper C_NoName K):=⟨_,_,Lu F40 T k_Keeper x_HalfError x_NoName Cy Ah At,⟨a40,i40,k40⟩,b40⟩
 have Hx:T7 l.prog w K mg base 4 C_Keeper "lead" ["self","name","other"] (G3 C_Keeper C_NoName K):=⟨_,_,Me F42 T k_Keeper x_HalfError x_NoName Ah Bn At,⟨a42,i42,k42⟩,b42⟩
 have Ax:Fnd l.prog w K mg base 5 "_law_told_by" ["_law_keeper","_law_word","_law_one","_law_other"] (C9 C_Keeper K):=⟨_,_,Ml F15 T k_Keeper x_HalfError x_NoName x_TooMany x_Clash x_NoSaying x_NoMore ndX J8 Ia Ht Hm C8 Gr Hx h__law_refusal,A05 X G a15,k15,b15⟩
 have Ld:Fnd l.prog w K mg base 6 "_law_say" ["_law_side_here","_law_name","_law_other"] (Jx C_Keeper K):=⟨_,_,Uo F19 T k_Keeper Hq Ax Co Hr,A05 X G a19,k19,b19⟩
 have Js:Fnd l.prog w K mg base 6 "_law_take" ["_law_side_here","_law_number"] (J7 C_Keeper K):=⟨_,_,Rz F20 T k_Keeper Ax,A05 X G a20,k20,b20⟩
 have K0:Fnd l.prog w K mg base 6 "_law_back" ["_law_side_here","_law_word"] (Ik C_Keeper K):=⟨_,_,Sr F22 T k_Keeper Ax Kw,A05 X G a22,k22,b22⟩
 have Cu:Fnd l.prog w K mg base 6 "_law_looked" ["_law_side_here"] (Gv C_Keeper K):=⟨_,_,Pd F23 T k_Keeper Ax Co Fk Ah,A05 X G a23,k23,b23⟩
 have K9:Fnd l.prog w K mg base 7 "_law_deed" ["_law_feed_here","_law_side_here"] (Io C_Keeper K):=⟨_,_,Tj F24 T k_Keeper Ak Ld Js K0,A05 X G a24,k24,b24⟩
 have Dl:Mtd l.prog w K mg base 13 C_Ways "ways_on" ["self","left"] (Gc C_Ways K):=⟨_,_,Ob F28 T k_Ways C2 ⟨a28,i28,k28⟩ b28,⟨a28,i28,k28⟩,b28⟩
 have Xt:Fnd l.prog w K mg base 14 "count" ["half"] (Qv K):=⟨_,_,ad0 F5 T k_Ways Jt Dl,A05 X G a5,k5,b5⟩
 have aa1:Mtd l.prog w K mg base 15 C_Keeper "many" ["self"] (Jp C_Keeper K):=⟨_,_,Oy F38 T k_Keeper Xt Ah,⟨a38,i38,k38⟩,b38⟩
 exact ar8 F25 T k_Keeper K5 Ak J3 Gb Cu K9 Ea Ah
theorem walk {l:PySem.W.OpenLaw}{q:Program}{loose:List Str}{XP:(Str->Option Value)->Heap->Prop}{YP:World->Heap->Prop}{d:DefRec}{K:Params->PySem.W.Frag}(hn:l.most=some 63)(hdf:d.params.defaults=[])
  (hY:∀(w:World) (h:Heap),YP w h->(K w.params).In h)
  (F:∀(w:World) (mg:Str->Option Value) (fa:Addr) (h:Heap),(K w.params).In h->h.Ns mainGlobals mg->mg d.name=some (.ref fa) ->
   ∃ fd:FuncData,(∀(s:Shared) (u:Value),BindsTo s fd ⟨[u],[]⟩ [("_law_script",u)])/\∀ base:Heap,(K w.params).In base->base.Ns mainGlobals mg->FnOk l.prog w (K w.params) mg base CX0 8 fa fd ["_law_script"] (spLaw (K w.params))) :
  PySem.W.WalkO q loose XP YP l.row.toRowW d [] (λf vs=>PySem.call f vs):=
 L2.walk_of (n:=63) (k:=8) (x:="_law_script") (CX:=λ_=>CX0) (sp:=λw=>spLaw (K w.params)) hn ∅ hdf ⟨rfl,by decide,by decide,rfl⟩ hY F (λ_ _ a ns hl _ hS=>⟨a,ns,rfl,hS,hl,λ_=>rfl⟩) λ_ _ _ _ _ z=>z
end K77
theorem PySem.W.Fast.tw1340154908583130441 : True := trivial
theorem PySem.W.Fast.tw9140659277367859133 : True := trivial
theorem PySem.W.Fast.tw9538345767526472145 : True := trivial
theorem PySem.W.Fast.tw1278392002774000801 : True := trivial
theorem PySem.W.Fast.tw641676497536487029 : True := trivial
theorem PySem.W.Fast.tw6899832756394243120 : True := trivial
theorem PySem.W.Fast.tw7746678829963107256 : True := trivial
theorem PySem.W.Fast.tw4063055522018522071 : True := trivial
theorem PySem.W.Fast.tw14690745897684617564 : True := trivial
theorem PySem.W.Fast.tw11517971982296363869 : True := trivial
theorem PySem.W.Fast.tw10959796233769153104 : True := trivial
theorem PySem.W.Fast.tw14735011843352850925 : True := trivial
theorem PySem.W.Fast.tw7884976937219123669 : True := trivial
theorem PySem.W.Fast.tw8804602804906832574 : True := trivial
theorem PySem.W.Fast.tw877582292841824371 : True := trivial
theorem PySem.W.Fast.tw10431061582413966310 : True := trivial
theorem PySem.W.Fast.tw15019574420966033187 : True := trivial
theorem PySem.W.Fast.tw14966067439271445949 : True := trivial
theorem PySem.W.Fast.tw4775035982783554206 : True := trivial
theorem PySem.W.Fast.tw526195653948335480 : True := trivial
theorem PySem.W.Fast.tw6575197656445282336 : True := trivial
theorem PySem.W.Fast.tw13602685103557593349 : True := trivial
theorem PySem.W.Fast.tw8560441439494145497 : True := trivial
theorem PySem.W.Fast.tw16110046936055488965 : True := trivial
theorem PySem.W.Fast.tw12569841138728908400 : True := trivial
theorem PySem.W.Fast.tw1646266313477413624 : True := trivial
theorem PySem.W.Fast.tw11070476906848511224 : True := trivial
theorem PySem.W.Fast.tw16854901993363251697 : True := trivial
theorem PySem.W.Fast.tw4678707644595691256 : True := trivial
theorem PySem.W.Fast.tw12105803556614045886 : True := trivial
theorem PySem.W.Fast.tw16744956037319480195 : True := trivial
theorem PySem.W.Fast.tw8964138813414566147 : True := trivial
theorem PySem.W.Fast.tw16268140462597828327 : True := trivial
theorem PySem.W.Fast.tw243420179944586651 : True := trivial
theorem PySem.W.Fast.tw13954249404644370758 : True := trivial
theorem PySem.W.Fast.tw6467329383785034609 : True := trivial
theorem PySem.W.Fast.tw3714031684196806826 : True := trivial
theorem PySem.W.Fast.tw5291248490573636909 : True := trivial
theorem PySem.W.Fast.tw8346427710176300573 : True := trivial
theorem PySem.W.Fast.tw16968666857983363724 : True := trivial
theorem PySem.W.Fast.tw17544020361939616131 : True := trivial
theorem PySem.W.Fast.tw11915979858725370855 : True := trivial
theorem PySem.W.Fast.tw11529240210966234627 : True := trivial
theorem PySem.W.Fast.tw11897465234535368864 : True := trivial
theorem PySem.W.Fast.tw10826379135135347609 : True := trivial
theorem PySem.W.Fast.tw11451226640180859959 : True := trivial
theorem PySem.W.Fast.tw14262110836345190632 : True := trivial
theorem PySem.W.Fast.tw607488841662422851 : True := trivial
theorem PySem.W.Fast.tw16571647699476232588 : True := trivial
theorem PySem.W.Fast.tw5370017683432975309 : True := trivial
theorem PySem.W.Fast.tw3429639368400814877 : True := trivial
theorem PySem.W.Fast.tw1889180762313899554 : True := trivial
theorem PySem.W.Fast.tw17409508785853590566 : True := trivial
theorem PySem.W.Fast.tw17796798945737905836 : True := trivial
theorem PySem.W.Fast.tw11447362426738710017 : True := trivial
theorem PySem.W.Fast.tw13543477891393257206 : True := trivial
theorem PySem.W.Fast.tw13991828382144471980 : True := trivial
theorem PySem.W.Fast.tw12962578698622247677 : True := trivial
theorem PySem.W.Fast.tw3037476177840307238 : True := trivial
theorem PySem.W.Fast.tw12937250935593281851 : True := trivial
theorem PySem.W.Fast.tw17750040102823278483 : True := trivial
theorem PySem.W.Fast.tw3645336427674584282 : True := trivial
theorem PySem.W.Fast.tw13822201879942953793 : True := trivial
theorem PySem.W.Fast.tw16107155698908850240 : True := trivial
theorem PySem.W.Fast.tw15281913307604881701 : True := trivial
theorem PySem.W.Fast.tw4643355597595398340 : True := trivial
theorem PySem.W.Fast.tw12730978375205674816 : True := trivial
theorem PySem.W.Fast.tw1108103821597269122 : True := trivial
theorem PySem.W.Fast.tw11719682368557264742 : True := trivial
theorem PySem.W.Fast.tw7358913025543346979 : True := trivial
theorem PySem.W.Fast.tw2754919411655361169 : True := trivial
theorem PySem.W.Fast.tw4428408000496189634 : True := trivial
theorem PySem.W.Fast.tw2696185345493612551 : True := trivial
theorem PySem.W.Fast.tw11771553657557404820 : True := trivial
theorem PySem.W.Fast.tw13646155902907196660 : True := trivial
theorem PySem.W.Fast.tw4482280155154687222 : True := trivial
theorem PySem.W.Fast.tw7107652662898880371 : True := trivial
theorem PySem.W.Fast.tw2411337822464808338 : True := trivial
theorem PySem.W.Fast.tw6689828234124732397 : True := trivial
theorem PySem.W.Fast.tw4168714383647485684 : True := trivial
theorem PySem.W.Fast.tw14840197606595553918 : True := trivial
theorem PySem.W.Fast.tw11017760737214178864 : True := trivial
theorem PySem.W.Fast.tw12972548346111293397 : True := trivial
theorem PySem.W.Fast.tw16067556017636562940 : True := trivial
theorem PySem.W.Fast.tw10274566889246070758 : True := trivial
theorem PySem.W.Fast.tw1634840790053738914 : True := trivial
theorem PySem.W.Fast.tw11317264557486188024 : True := trivial
theorem PySem.W.Fast.tw17514536224232495159 : True := trivial
theorem PySem.W.Fast.tw1748540599976798066 : True := trivial
theorem PySem.W.Fast.tw10460911148247575647 : True := trivial
theorem PySem.W.Fast.tw14429262800555139817 : True := trivial
theorem PySem.W.Fast.tw17818544055327212667 : True := trivial
theorem PySem.W.Fast.tw17049028943319549827 : True := trivial
theorem PySem.W.Fast.tw15498826234971219825 : True := trivial
theorem PySem.W.Fast.tw17582495835443981635 : True := trivial
theorem PySem.W.Fast.tw9695238483964738126 : True := trivial
theorem PySem.W.Fast.tw15539665106597752785 : True := trivial
theorem PySem.W.Fast.tw12587302297209522249 : True := trivial
theorem PySem.W.Fast.tw6865816859293938672 : True := trivial
theorem PySem.W.Fast.tw2550373372250824042 : True := trivial
theorem PySem.W.Fast.tw11326915205498009084 : True := trivial
theorem PySem.W.Fast.tw7098915579063617965 : True := trivial
theorem PySem.W.Fast.tw12444430315567031156 : True := trivial
theorem PySem.W.Fast.tw15080060369754030996 : True := trivial
theorem PySem.W.Fast.tw2235866869897012577 : True := trivial
theorem PySem.W.Fast.tw3825370192294790028 : True := trivial
theorem PySem.W.Fast.tw4230491337820320999 : True := trivial
open PySem PySem.W PyProof.Rows
set_option maxRecDepth 100000 in
set_option maxHeartbeats 0 in
theorem PySem.Challenge.cw_halforder_k77_two_keepers_by_turns_holds : PySem.Challenge.rw_halforder_k77_two_keepers_by_turns.Holds := by
 w_on;o_law;k_head;(case hw=>w_witness2)
 k_fill
 refine K77.walk (l:=PySem.Challenge.rw_halforder_k77_two_keepers_by_turns) rfl rfl (λw h Y=>PySem.W.kIn_of Y) ?F
 case F=>
  intro w mg fa h KX G hmg
  refine' K77.all_mk KX G hmg ?q_aC_Ways ?q_pg_Ways ?q_hd_Ways ?q_po_Ways ?q_sa_Ways ?q_mk_Ways ?q_kc_Ways ?q_n_Ways_names ?q_n_Ways_bits ?q_n_Ways_ahead ?q_n_Ways_full ?q_n_Ways_known ?q_aC_Keeper ?q_pg_Keeper ?q_hd_Keeper ?q_po_Keeper ?q_sa_Keeper ?q_mk_Keeper ?q_kc_Keeper ?q_n_Keeper_names ?q_n_Keeper_now ?q_n_Keeper_past ?q_n_Keeper_undone ?q_cg ?q_ct ?q_aX_HalfError ?q_aX_NoHalf ?q_aX_NoText ?q_aX_NoName ?q_aX_TooMany ?q_aX_NoCover ?q_aX_NoPlace ?q_aX_NoOrder ?q_aX_NoJoin ?q_aX_Clash ?q_aX_NoPaper ?q_aX_NoPlan ?q_aX_NoBound ?q_aX_NoSaying ?q_aX_NoMore ?q_ex_HalfError ?q_sX_HalfError ?q_gX_HalfError ?q_tX_HalfError ?q_lX_HalfError ?q_no_HalfError ?q_kX_HalfError ?q_ex_NoHalf ?q_sX_NoHalf ?q_gX_NoHalf ?q_tX_NoHalf ?q_lX_NoHalf ?q_mr_NoHalf ?q_kX_NoHalf ?q_nX_NoHalf_word ?q_nX_NoHalf_number ?q_ex_NoText ?q_sX_NoText ?q_gX_NoText ?q_tX_NoText ?q_lX_NoText ?q_mr_NoText ?q_kX_NoText ?q_nX_NoText_row ?q_ex_NoName ?q_sX_NoName ?q_gX_NoName ?q_tX_NoName ?q_lX_NoName ?q_mr_NoName ?q_kX_NoName ?q_nX_NoName_name ?q_ex_TooMany ?q_sX_TooMany ?q_gX_TooMany ?q_tX_TooMany ?q_lX_TooMany ?q_mr_TooMany ?q_kX_TooMany ?q_nX_TooMany_word ?q_ex_NoCover ?q_sX_NoCover ?q_gX_NoCover ?q_tX_NoCover ?q_lX_NoCover ?q_mr_NoCover ?q_no_NoCover ?q_kX_NoCover ?q_ex_NoPlace ?q_sX_NoPlace ?q_gX_NoPlace ?q_tX_NoPlace ?q_lX_NoPlace ?q_mr_NoPlace ?q_kX_NoPlace ?q_nX_NoPlace_number ?q_ex_NoOrder ?q_sX_NoOrder ?q_gX_NoOrder ?q_tX_NoOrder ?q_lX_NoOrder ?q_mr_NoOrder ?q_no_NoOrder ?q_kX_NoOrder ?q_ex_NoJoin ?q_sX_NoJoin ?q_gX_NoJoin ?q_tX_NoJoin ?q_lX_NoJoin ?q_mr_NoJoin ?q_kX_NoJoin ?q_nX_NoJoin_word ?q_ex_Clash ?q_sX_Clash ?q_gX_Clash ?q_tX_Clash ?q_lX_Clash ?q_mr_Clash ?q_kX_Clash ?q_nX_Clash_way ?q_ex_NoPaper ?q_sX_NoPaper ?q_gX_NoPaper ?q_tX_NoPaper ?q_lX_NoPaper ?q_mr_NoPaper ?q_kX_NoPaper ?q_nX_NoPaper_word ?q_nX_NoPaper_row ?q_ex_NoPlan ?q_sX_NoPlan ?q_gX_NoPlan ?q_tX_NoPlan ?q_lX_NoPlan ?q_mr_NoPlan ?q_kX_NoPlan ?q_nX_NoPlan_word ?q_nX_NoPlan_path ?q_ex_NoBound ?q_sX_NoBound ?q_gX_NoBound ?q_tX_NoBound ?q_lX_NoBound ?q_mr_NoBound ?q_kX_NoBound ?q_nX_NoBound_word ?q_nX_NoBound_row ?q_ex_NoSaying ?q_sX_NoSaying ?q_gX_NoSaying ?q_tX_NoSaying ?q_lX_NoSaying ?q_mr_NoSaying ?q_kX_NoSaying ?q_nX_NoSaying_number ?q_ex_NoMore ?q_sX_NoMore ?q_gX_NoMore ?q_tX_NoMore ?q_lX_NoMore ?q_mr_NoMore ?q_no_NoMore ?q_kX_NoMore ?q_ndX ?q_a0 ?q_l0 ?q_c0 ?q_k0 ?q_a1 ?q_l1 ?q_c1 ?q_k1 ?q_a2 ?q_l2 ?q_c2 ?q_k2 ?q_a3 ?q_l3 ?q_c3 ?q_k3 ?q_a4 ?q_l4 ?q_c4 ?q_k4 ?q_a5 ?q_l5 ?q_c5 ?q_k5 ?q_a6 ?q_l6 ?q_c6 ?q_k6 ?q_a7 ?q_l7 ?q_c7 ?q_k7 ?q_a8 ?q_l8 ?q_c8 ?q_k8 ?q_a9 ?q_l9 ?q_c9 ?q_k9 ?q_a10 ?q_l10 ?q_c10 ?q_k10 ?q_a11 ?q_l11 ?q_c11 ?q_k11 ?q_a12 ?q_l12 ?q_c12 ?q_k12 ?q_a13 ?q_l13 ?q_c13 ?q_k13 ?q_a14 ?q_l14 ?q_c14 ?q_k14 ?q_a15 ?q_l15 ?q_c15 ?q_k15 ?q_a16 ?q_l16 ?q_c16 ?q_k16 ?q_a17 ?q_l17 ?q_c17 ?q_k17 ?q_a18 ?q_l18 ?q_c18 ?q_k18 ?q_a19 ?q_l19 ?q_c19 ?q_k19 ?q_a20 ?q_l20 ?q_c20 ?q_k20 ?q_a21 ?q_l21 ?q_c21 ?q_k21 ?q_a22 ?q_l22 ?q_c22 ?q_k22 ?q_a23 ?q_l23 ?q_c23 ?q_k23 ?q_a24 ?q_l24 ?q_c24 ?q_k24 ?q_a25 ?q_l25 ?q_c25 ?q_k25 ?q_a26 ?q_i26 ?q_l26 ?q_c26 ?q_k26 ?q_a27 ?q_i27 ?q_l27 ?q_c27 ?q_k27 ?q_a28 ?q_i28 ?q_l28 ?q_c28 ?q_k28 ?q_a29 ?q_i29 ?q_l29 ?q_c29 ?q_k29 ?q_a30 ?q_i30 ?q_l30 ?q_c30 ?q_k30 ?q_a31 ?q_i31 ?q_l31 ?q_c31 ?q_k31 ?q_a32 ?q_i32 ?q_l32 ?q_c32 ?q_k32 ?q_a33 ?q_i33 ?q_l33 ?q_c33 ?q_k33 ?q_a34 ?q_i34 ?q_l34 ?q_c34 ?q_k34 ?q_a35 ?q_i35 ?q_l35 ?q_c35 ?q_k35 ?q_a36 ?q_i36 ?q_l36 ?q_c36 ?q_k36 ?q_a37 ?q_i37 ?q_l37 ?q_c37 ?q_k37 ?q_a38 ?q_i38 ?q_l38 ?q_c38 ?q_k38 ?q_a39 ?q_i39 ?q_l39 ?q_c39 ?q_k39 ?q_a40 ?q_i40 ?q_l40 ?q_c40 ?q_k40 ?q_a41 ?q_i41 ?q_l41 ?q_c41 ?q_k41 ?q_a42 ?q_i42 ?q_l42 ?q_c42 ?q_k42 ?q_a43 ?q_i43 ?q_l43 ?q_c43 ?q_k43 ?q_a44 ?q_i44 ?q_l44 ?q_c44 ?q_k44 ?q_a45 ?q_i45 ?q_l45 ?q_c45 ?q_k45 ?q_a46 ?q_i46 ?q_l46 ?q_c46 ?q_k46 ?q_a47 ?q_i47 ?q_l47 ?q_c47 ?q_k47 ?q_g0 ?q_g1 ?q_g2 ?q_g3 ?q_z0 ?q_z1 ?q_z2 ?q_z3 ?q_z4 ?q_z5 ?q_z6 ?q_z7 ?q_z8 ?q_z9 ?q_z10 ?q_z11 ?q_z12 ?q_z13 ?q_z14 ?q_z15
  (case q_aC_Ways=>k_is)
  (case q_pg_Ways=>k_is)
  (case q_hd_Ways=>k_is)
  (case q_po_Ways=>k_is)
  (case q_sa_Ways=>k_is)
  (case q_mk_Ways=>k_is)
  (case q_kc_Ways=>k_is)
  (case q_n_Ways_names=>k_is)
  (case q_n_Ways_bits=>k_is)
  (case q_n_Ways_ahead=>k_is)
  (case q_n_Ways_full=>k_is)
  (case q_n_Ways_known=>k_is)
  (case q_aC_Keeper=>k_is)
  (case q_pg_Keeper=>k_is)
  (case q_hd_Keeper=>k_is)
  (case q_po_Keeper=>k_is)
  (case q_sa_Keeper=>k_is)
  (case q_mk_Keeper=>k_is)
  (case q_kc_Keeper=>k_is)
  (case q_n_Keeper_names=>k_is)
  (case q_n_Keeper_now=>k_is)
  (case q_n_Keeper_past=>k_is)
  (case q_n_Keeper_undone=>k_is)
  (case q_cg=>k_is)
  (case q_ct=>k_is)
  (case q_aX_HalfError=>k_is)
  (case q_aX_NoHalf=>k_is)
  (case q_aX_NoText=>k_is)
  (case q_aX_NoName=>k_is)
  (case q_aX_TooMany=>k_is)
  (case q_aX_NoCover=>k_is)
  (case q_aX_NoPlace=>k_is)
  (case q_aX_NoOrder=>k_is)
  (case q_aX_NoJoin=>k_is)
  (case q_aX_Clash=>k_is)
  (case q_aX_NoPaper=>k_is)
  (case q_aX_NoPlan=>k_is)
  (case q_aX_NoBound=>k_is)
  (case q_aX_NoSaying=>k_is)
  (case q_aX_NoMore=>k_is)
  (case q_ex_HalfError=>kernel_rfl)
  (case q_sX_HalfError=>k_is)
  (case q_gX_HalfError=>k_is)
  (case q_tX_HalfError=>k_is)
  (case q_lX_HalfError=>k_is)
  (case q_no_HalfError=>kernel_rfl)
  (case q_kX_HalfError=>k_is)
  (case q_ex_NoHalf=>kernel_rfl)
  (case q_sX_NoHalf=>k_is)
  (case q_gX_NoHalf=>k_is)
  (case q_tX_NoHalf=>k_is)
  (case q_lX_NoHalf=>k_is)
  (case q_mr_NoHalf=>kernel_rfl)
  (case q_kX_NoHalf=>k_is)
  (case q_nX_NoHalf_word=>k_is)
  (case q_nX_NoHalf_number=>k_is)
  (case q_ex_NoText=>kernel_rfl)
  (case q_sX_NoText=>k_is)
  (case q_gX_NoText=>k_is)
  (case q_tX_NoText=>k_is)
  (case q_lX_NoText=>k_is)
  (case q_mr_NoText=>kernel_rfl)
  (case q_kX_NoText=>k_is)
  (case q_nX_NoText_row=>k_is)
  (case q_ex_NoName=>kernel_rfl)
  (case q_sX_NoName=>k_is)
  (case q_gX_NoName=>k_is)
  (case q_tX_NoName=>k_is)
  (case q_lX_NoName=>k_is)
  (case q_mr_NoName=>kernel_rfl)
  (case q_kX_NoName=>k_is)
  (case q_nX_NoName_name=>k_is)
  (case q_ex_TooMany=>kernel_rfl)
  (case q_sX_TooMany=>k_is)
  (case q_gX_TooMany=>k_is)
  (case q_tX_TooMany=>k_is)
  (case q_lX_TooMany=>k_is)
  (case q_mr_TooMany=>kernel_rfl)
  (case q_kX_TooMany=>k_is)
  (case q_nX_TooMany_word=>k_is)
  (case q_ex_NoCover=>kernel_rfl)
  (case q_sX_NoCover=>k_is)
  (case q_gX_NoCover=>k_is)
  (case q_tX_NoCover=>k_is)
  (case q_lX_NoCover=>k_is)
  (case q_mr_NoCover=>kernel_rfl)
  (case q_no_NoCover=>kernel_rfl)
  (case q_kX_NoCover=>k_is)
  (case q_ex_NoPlace=>kernel_rfl)
  (case q_sX_NoPlace=>k_is)
  (case q_gX_NoPlace=>k_is)
  (case q_tX_NoPlace=>k_is)
  (case q_lX_NoPlace=>k_is)
  (case q_mr_NoPlace=>kernel_rfl)
  (case q_kX_NoPlace=>k_is)
  (case q_nX_NoPlace_number=>k_is)
  (case q_ex_NoOrder=>kernel_rfl)
  (case q_sX_NoOrder=>k_is)
  (case q_gX_NoOrder=>k_is)
  (case q_tX_NoOrder=>k_is)
  (case q_lX_NoOrder=>k_is)
  (case q_mr_NoOrder=>kernel_rfl)
  (case q_no_NoOrder=>kernel_rfl)
  (case q_kX_NoOrder=>k_is)
  (case q_ex_NoJoin=>kernel_rfl)
  (case q_sX_NoJoin=>k_is)
  (case q_gX_NoJoin=>k_is)
  (case q_tX_NoJoin=>k_is)
  (case q_lX_NoJoin=>k_is)
  (case q_mr_NoJoin=>kernel_rfl)
  (case q_kX_NoJoin=>k_is)
  (case q_nX_NoJoin_word=>k_is)
  (case q_ex_Clash=>kernel_rfl)
  (case q_sX_Clash=>k_is)
  (case q_gX_Clash=>k_is)
  (case q_tX_Clash=>k_is)
  (case q_lX_Clash=>k_is)
  (case q_mr_Clash=>kernel_rfl)
  (case q_kX_Clash=>k_is)
  (case q_nX_Clash_way=>k_is)
  (case q_ex_NoPaper=>kernel_rfl)
  (case q_sX_NoPaper=>k_is)
  (case q_gX_NoPaper=>k_is)
  (case q_tX_NoPaper=>k_is)
  (case q_lX_NoPaper=>k_is)
  (case q_mr_NoPaper=>kernel_rfl)
  (case q_kX_NoPaper=>k_is)
  (case q_nX_NoPaper_word=>k_is)
  (case q_nX_NoPaper_row=>k_is)
  (case q_ex_NoPlan=>kernel_rfl)
  (case q_sX_NoPlan=>k_is)
  (case q_gX_NoPlan=>k_is)
  (case q_tX_NoPlan=>k_is)
  (case q_lX_NoPlan=>k_is)
  (case q_mr_NoPlan=>kernel_rfl)
  (case q_kX_NoPlan=>k_is)
  (case q_nX_NoPlan_word=>k_is)
  (case q_nX_NoPlan_path=>k_is)
  (case q_ex_NoBound=>kernel_rfl)
  (case q_sX_NoBound=>k_is)
  (case q_gX_NoBound=>k_is)
  (case q_tX_NoBound=>k_is)
  (case q_lX_NoBound=>k_is)
  (case q_mr_NoBound=>kernel_rfl)
  (case q_kX_NoBound=>k_is)
  (case q_nX_NoBound_word=>k_is)
  (case q_nX_NoBound_row=>k_is)
  (case q_ex_NoSaying=>kernel_rfl)
  (case q_sX_NoSaying=>k_is)
  (case q_gX_NoSaying=>k_is)
  (case q_tX_NoSaying=>k_is)
  (case q_lX_NoSaying=>k_is)
  (case q_mr_NoSaying=>kernel_rfl)
  (case q_kX_NoSaying=>k_is)
  (case q_nX_NoSaying_number=>k_is)
  (case q_ex_NoMore=>kernel_rfl)
  (case q_sX_NoMore=>k_is)
  (case q_gX_NoMore=>k_is)
  (case q_tX_NoMore=>k_is)
  (case q_lX_NoMore=>k_is)
  (case q_mr_NoMore=>kernel_rfl)
  (case q_no_NoMore=>kernel_rfl)
  (case q_kX_NoMore=>k_is)
  (case q_ndX=>decide)
  (case q_a0=>k_is)
  (case q_l0=>k_is)
  (case q_c0=>k_is)
  (case q_k0=>k_is)
  (case q_a1=>k_is)
  (case q_l1=>k_is)
  (case q_c1=>k_is)
  (case q_k1=>k_is)
  (case q_a2=>k_is)
  (case q_l2=>k_is)
  (case q_c2=>k_is)
  (case q_k2=>k_is)
  (case q_a3=>k_is)
  (case q_l3=>k_is)
  (case q_c3=>k_is)
  (case q_k3=>k_is)
  (case q_a4=>k_is)
  (case q_l4=>k_is)
  (case q_c4=>k_is)
  (case q_k4=>k_is)
  (case q_a5=>k_is)
  (case q_l5=>k_is)
  (case q_c5=>k_is)
  (case q_k5=>k_is)
  (case q_a6=>k_is)
  (case q_l6=>k_is)
  (case q_c6=>k_is)
  (case q_k6=>k_is)
  (case q_a7=>k_is)
  (case q_l7=>k_is)
  (case q_c7=>k_is)
  (case q_k7=>k_is)
  (case q_a8=>k_is)
  (case q_l8=>k_is)
  (case q_c8=>k_is)
  (case q_k8=>k_is)
  (case q_a9=>k_is)
  (case q_l9=>k_is)
  (case q_c9=>k_is)
  (case q_k9=>k_is)
  (case q_a10=>k_is)
  (case q_l10=>k_is)
  (case q_c10=>k_is)
  (case q_k10=>k_is)
  (case q_a11=>k_is)
  (case q_l11=>k_is)
  (case q_c11=>k_is)
  (case q_k11=>k_is)
  (case q_a12=>k_is)
  (case q_l12=>k_is)
  (case q_c12=>k_is)
  (case q_k12=>k_is)
  (case q_a13=>k_is)
  (case q_l13=>k_is)
  (case q_c13=>k_is)
  (case q_k13=>k_is)
  (case q_a14=>k_is)
  (case q_l14=>k_is)
  (case q_c14=>k_is)
  (case q_k14=>k_is)
  (case q_a15=>k_is)
  (case q_l15=>k_is)
  (case q_c15=>k_is)
  (case q_k15=>k_is)
  (case q_a16=>k_is)
  (case q_l16=>k_is)
  (case q_c16=>k_is)
  (case q_k16=>k_is)
  (case q_a17=>k_is)
  (case q_l17=>k_is)
  (case q_c17=>k_is)
  (case q_k17=>k_is)
  (case q_a18=>k_is)
  (case q_l18=>k_is)
  (case q_c18=>k_is)
  (case q_k18=>k_is)
  (case q_a19=>k_is)
  (case q_l19=>k_is)
  (case q_c19=>k_is)
  (case q_k19=>k_is)
  (case q_a20=>k_is)
  (case q_l20=>k_is)
  (case q_c20=>k_is)
  (case q_k20=>k_is)
  (case q_a21=>k_is)
  (case q_l21=>k_is)
  (case q_c21=>k_is)
  (case q_k21=>k_is)
  (case q_a22=>k_is)
  (case q_l22=>k_is)
  (case q_c22=>k_is)
  (case q_k22=>k_is)
  (case q_a23=>k_is)
  (case q_l23=>k_is)
  (case q_c23=>k_is)
  (case q_k23=>k_is)
  (case q_a24=>k_is)
  (case q_l24=>k_is)
  (case q_c24=>k_is)
  (case q_k24=>k_is)
  (case q_a25=>k_is)
  (case q_l25=>k_is)
  (case q_c25=>k_is)
  (case q_k25=>k_is)
  (case q_a26=>k_is)
  (case q_i26=>k_is)
  (case q_l26=>k_is)
  (case q_c26=>k_is)
  (case q_k26=>k_is)
  (case q_a27=>k_is)
  (case q_i27=>k_is)
  (case q_l27=>k_is)
  (case q_c27=>k_is)
  (case q_k27=>k_is)
  (case q_a28=>k_is)
  (case q_i28=>k_is)
  (case q_l28=>k_is)
  (case q_c28=>k_is)
  (case q_k28=>k_is)
  (case q_a29=>k_is)
  (case q_i29=>k_is)
  (case q_l29=>k_is)
  (case q_c29=>k_is)
  (case q_k29=>k_is)
  (case q_a30=>k_is)
  (case q_i30=>k_is)
  (case q_l30=>k_is)
  (case q_c30=>k_is)
  (case q_k30=>k_is)
  (case q_a31=>k_is)
  (case q_i31=>k_is)
  (case q_l31=>k_is)
  (case q_c31=>k_is)
  (case q_k31=>k_is)
  (case q_a32=>k_is)
  (case q_i32=>k_is)
  (case q_l32=>k_is)
  (case q_c32=>k_is)
  (case q_k32=>k_is)
  (case q_a33=>k_is)
  (case q_i33=>k_is)
  (case q_l33=>k_is)
  (case q_c33=>k_is)
  (case q_k33=>k_is)
  (case q_a34=>k_is)
  (case q_i34=>k_is)
  (case q_l34=>k_is)
  (case q_c34=>k_is)
  (case q_k34=>k_is)
  (case q_a35=>k_is)
  (case q_i35=>k_is)
  (case q_l35=>k_is)
  (case q_c35=>k_is)
  (case q_k35=>k_is)
  (case q_a36=>k_is)
  (case q_i36=>k_is)
  (case q_l36=>k_is)
  (case q_c36=>k_is)
  (case q_k36=>k_is)
  (case q_a37=>k_is)
  (case q_i37=>k_is)
  (case q_l37=>k_is)
  (case q_c37=>k_is)
  (case q_k37=>k_is)
  (case q_a38=>k_is)
  (case q_i38=>k_is)
  (case q_l38=>k_is)
  (case q_c38=>k_is)
  (case q_k38=>k_is)
  (case q_a39=>k_is)
  (case q_i39=>k_is)
  (case q_l39=>k_is)
  (case q_c39=>k_is)
  (case q_k39=>k_is)
  (case q_a40=>k_is)
  (case q_i40=>k_is)
  (case q_l40=>k_is)
  (case q_c40=>k_is)
  (case q_k40=>k_is)
  (case q_a41=>k_is)
  (case q_i41=>k_is)
  (case q_l41=>k_is)
  (case q_c41=>k_is)
  (case q_k41=>k_is)
  (case q_a42=>k_is)
  (case q_i42=>k_is)
  (case q_l42=>k_is)
  (case q_c42=>k_is)
  (case q_k42=>k_is)
  (case q_a43=>k_is)
  (case q_i43=>k_is)
  (case q_l43=>k_is)
  (case q_c43=>k_is)
  (case q_k43=>k_is)
  (case q_a44=>k_is)
  (case q_i44=>k_is)
  (case q_l44=>k_is)
  (case q_c44=>k_is)
  (case q_k44=>k_is)
  (case q_a45=>k_is)
  (case q_i45=>k_is)
  (case q_l45=>k_is)
  (case q_c45=>k_is)
  (case q_k45=>k_is)
  (case q_a46=>k_is)
  (case q_i46=>k_is)
  (case q_l46=>k_is)
  (case q_c46=>k_is)
  (case q_k46=>k_is)
  (case q_a47=>k_is)
  (case q_i47=>k_is)
  (case q_l47=>k_is)
  (case q_c47=>k_is)
  (case q_k47=>k_is)
  (case q_g0=>k_is)
  (case q_g1=>k_is)
  (case q_g2=>k_is)
  (case q_g3=>k_is)
  (case q_z0=>k_is)
  (case q_z1=>k_is)
  (case q_z2=>k_is)
  (case q_z3=>k_is)
  (case q_z4=>k_is)
  (case q_z5=>k_is)
  (case q_z6=>k_is)
  (case q_z7=>k_is)
  (case q_z8=>k_is)
  (case q_z9=>k_is)
  (case q_z10=>k_is)
  (case q_z11=>k_is)
  (case q_z12=>k_is)
  (case q_z13=>k_is)
  (case q_z14=>k_is)
  (case q_z15=>k_is)
