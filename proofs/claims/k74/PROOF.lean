import PyProof.Rows.All
import Wide.All
import OpenK.AllK
import Wide.FinOn
import PyProof.EqAt
import PyProof.EqKinds
import PyProof.TupleCall
import Lean
import PyProof.DictWalks
import PyProof.DictIter
import PyProof.P3In
import KE.KEqSeq
import PyProof.ReprLen
import PyProof.ReprRoads
import PyProof.StrOps2
import KE.KRevSl
import PyProof.IsRules
import PyProof.StrLawsIdx
import PyProof.Rows.RegRepr
import PyProof.Rows.RegFStrParts
import PyProof.DictUpdate
import PyProof.AttrMissHeap
import PyProof.Walks
import KE.KDictOf
import PyProof.EnumIter
import PyProof.EnumFor
import PyProof.LayNew
import PyProof.EnumMake
import PyProof.Draws
import PyProof.WalksT
import PyProof.TupleIter
import PyProof.WalksMore
import KE.KRevIter
import KE.KEqDict
import PyProof.Rows.SetFrom
import PyProof.StrLawsTight
import PyProof.StrLawsChain
import PyProof.SumWalk
import PyProof.Rows.SortStr
import PyProof.Rows.SortWalk
import PyProof.TupleOfSeq
import KE.KDictSum
import KE.KSortTup
import PyProof.ListRange
import PyProof.ZipIter
import PyProof.Rows.ZipGen
import KE.KItemsList
import PyProof.ExcArgsOwn
import PyProof.InstStoreFacts
import PyProof.ExcBaseAll.ValueError
import PyProof.StationsW
import PyProof.RulesAs
import PyProof.RulesDel
import PyProof.NeKinds
import PyProof.ListMulAny
import KE.KMinBuiltin
import PyProof.Rows.CallKwBuiltin
import KE.KLam
import KE.KMinKey
import PyProof.WalkInts
import KE.KNestM
import PyProof.SeqI3
import KE.KSortKey
import PyProof.MaxThree
import PySem.Challenge.RW_halforder_k74_keepers_begun
local macro_rules | `(tactic| eq_refl) => `(tactic| with_unfolding_all exact Or.inl rfl)
local macro_rules | `(tactic| ac_rfl) => `(tactic| with_unfolding_all exact fun _ _ => rfl)
local macro_rules | `(tactic| ac_nf) => `(tactic| with_unfolding_all rfl)
noncomputable section
local macro_rules | `(⋯) => `(by ac_nf)
local macro_rules | `(∅) => `(by decide)
local macro_rules | `(nofun) => `(by omega)
local macro_rules | `(tactic| symm) => `(tactic| walk_at "rd")
def A00:=@List.getElem?_eq_some_iff
def A01:=@PySem.Heap.get?_push_of_some
def A02:=@List.length_map
def A03:=@PySem.wpAny_bind
def A04:=@List.mem_of_getElem?
def A05:=@List.getElem?_eq_getElem
def A06:=@PySem.Heap.lt_size
def A07:=@Nat.le_refl
def A08:=@List.getElem?_map
def A09:=@PySem.wpAny_pure
def A0A:=@PySem.W.mg_of
def A0B:=@List.mem_cons_of_mem
def A0C:=@List.mem_cons
def A0D:=@PySem.Heap.get?_push_size
def A0E:=@List.mem_map
def A0F:=@Bool.false_ne_true
def A0G:=@List.mem_append
def A0H:=@List.map_cons
def A0I:=@PySem.F.plainAttrs_list
def A0J:=@if_neg
def A0K:=@Nat.ne_of_lt
def A0L:=@Nat.le_trans
def A0M:=@List.mem_cons_self
def A0N:=@List.length_cons
def A0O:=@Option.some.inj
def A0P:=@List.nodup_cons
def A0Q:=@decide_eq_false
def A0R:=@if_pos
def A0S:=@List.take_add_one
def A0T:=@List.length_append
def A0U:=@List.size_toArray
def A0V:=@PySem.F.slot_list_append
def A0W:=@PySem.F.type_list_append
def A0X:=@List.mem_append_left
def A0Y:=@beq_eq_false_iff_ne
def A0Z:=@decide_eq_true
def A10:=@Nat.lt_of_lt_of_le
def A11:=@List.take_length
def A12:=@List.map_congr_left
def A13:=@PySem.W.mg_none_of
def A14:=@List.length_take
def A15:=@List.mem_filter
def A16:=@List.map_append
def A17:=@PySem.PassesOwn.never
def A18:=@List.mem_append_right
def A19:=@Bool.and_eq_true
def A1A:=@List.map_map
def A1B:=@List.all_eq_true
def A1C:=@List.length_eq_zero_iff
def A1D:=@PySem.Heap.get?_update_other
def A1E:=@PySem.W.kia_one
def A1F:=@PySem.sizeLine_eq
def A1G:=@List.getElem_inj
def A1H:=@PySem.wpAny_Call_Name_kw
def A1I:=@List.sum_cons
def A1J:=@True.intro
def A1K:=@PyProof.Rows.callWith_type1
def A1L:=@List.length_filter_le
def A1M:=@List.length_drop
def A1N:=@List.lookup_cons
def A1O:=@List.mem_iff_getElem?
def A1P:=@Nat.lt_irrefl
def A1Q:=@List.getD_eq_getElem?_getD
def A1R:=@List.length_range
def A1S:=@List.nodup_append
def A1T:=@List.filter_sublist
def A1U:=@PySem.Heap.size_push
def A1V:=@List.getElem?_append_left
def A1W:=@PySem.Heap.get?_update_self
def A1X:=@PySem.wpAny_mono
def A1Y:=@List.Nodup.sublist
def A1Z:=@List.any_eq_true
def A20:=@PySem.wpAny_holding
def A21:=@List.any_cons
def A22:=@List.append_nil
def A23:=@Array.getElem?_eq_some_iff
def A24:=@beq_iff_eq
def A25:=@Nat.le_of_lt
def A26:=@List.length_replicate
def A27:=@List.length_singleton
def A28:=@PySem.F.slot_dict_get
def A29:=@List.mem_singleton
def A2A:=@List.mem_range
def A2B:=@PyProof.Rows.slot_tuple_getitem
def A2C:=@PySem.wpAny_newObj_type
def A2D:=@Nat.lt_succ_of_lt
def A2E:=@List.filter_congr
def A2F:=@PySem.wpAny_loadPart_at
def A2G:=@PySem.W.kia_tup
def A2H:=@Nat.le_succ
def A2I:=@PySem.mem_of_lookup
def A2J:=@PySem.wpAny_field
def A2K:=@List.replicate_succ
def A2L:=@List.getElem_of_mem
def A2M:=@beq_self_eq_true
def A2N:=@PySem.Calls.spliced_cons
def A2O:=@PySem.W.callWith_K
def A2P:=@PySem.tupleKind_room_in1
def A2Q:=@PySem.wpAny_pyIter_tuple
def A2R:=@PySem.W.tail_of_in
def A2S:=@PySem.wpAny_passesOwn
def A2T:=@List.getElem?_toArray
def A2U:=@PySem.Paired.length
def A2V:=@List.append_assoc
def A2W:=@List.getElem?_set_ne
def A2X:=@PySem.W.looks_findIn
def A2Y:=@List.mem_of_mem_drop
def A2Z:=@List.mem_of_mem_take
def A30:=@Nat.pow_le_pow_right
def A31:=@List.reverse_reverse
def A32:=@Nat.lt_succ_self
def A33:=@Sum.inl.inj
def A34:=@PySem.codeAny_mono
def A35:=@List.of_mem_zip
def A36:=@PySem.wpAny_callSpecial?_slot
def A37:=@PySem.F.plainAttrs_dict
def A38:=@PySem.wpAny_getItem_str_slice
def A39:=@List.filter_append
def A3A:=@List.contains_cons
def A3B:=@Int.emod_lt_of_pos
def A3C:=@List.getElem?_set_self
def A3D:=@PySem.Calls.callWith_builtin
def A3E:=@PySem.F.entry_dict_get
def A3F:=@PySem.wpAny_truthy_bool
def A3G:=@Nat.zero_le
def A3H:=@PySem.Calls.spliced_nil
def A3I:=@PySem.wpAny_call
def A3J:=@List.flatMap_cons
def A3K:=@Nat.ne_of_gt
def A3L:=@PyProof.Rows.callWith_builtin1
def A3M:=@PySem.wpAny_typeOf
def A3N:=@Array.getElem?_toList
def A3O:=@PySem.call_meetsIn
def A3P:=@PySem.Obj.isFreed_of_fields
def A3Q:=@Nat.min_le_right
def A3R:=@PySem.Around.under_plainId
def A3S:=@PySem.call_meets
def A3T:=@Bool.eq_iff_iff
def A3U:=@PySem.W.looks_clsIn
def A3V:=@List.length_reverse
def A3W:=@Or.inr
def A3X:=@PySem.codeAny_builtin
def A3Y:=@Nat.add_mul
def A3Z:=@Int.emod_nonneg
def A40:=@PySem.Calls.Name_function_global
def A41:=@List.getElem?_append_right
def A42:=@List.lookup_append
def A43:=@PySem.Obj.data_mapFields
def A44:=@List.getElem?_take
def A45:=@PySem.W.kitx_list
def A46:=@List.take_sublist
def A47:=@List.flatten_cons
def A48:=@PySem.wpAny_pyIter_list
def A49:=@PySem.wpAny_pyIter_enum
def A4A:=@decide_eq_true_eq
def A4B:=@List.getElem?_replicate
def A4C:=@Bool.false_or
def A4D:=@PySem.plainId_quiet
def A4E:=@PySem.W.any_some
def A4F:=@PySem.wpAny_call_entry
def A4G:=@List.mem_flatMap
def A4H:=@List.filter_cons
def A4I:=@PySem.W.cellsFrom_some
def A4J:=@Option.map_eq_some_iff
def A4K:=@List.take_of_length_le
def A4L:=@PySem.wpAny_execs_nil
def A4M:=@List.foldl_cons
def A4N:=@List.nil_append
def A4O:=@Nat.mul_comm
def A4P:=@Option.map_some
def A4Q:=@List.map_nil
def A4R:=@Nat.lt_trans
def A4S:=@Nat.le_antisymm
def A4T:=@PySem.post_val_or_str
def A4U:=@Bool.true_or
def A4V:=@PySem.F.slot_list_pop
def A4W:=@PySem.F.type_list_pop
def A4X:=@PySem.Calls.evalArgs_plain
def A4Y:=@PySem.codeAny_call_builtin
def A4Z:=@PySem.wpAny_loadPart
def A50:=@Bool.and_false
def A51:=@PySem.wpAny_seqItems
def A52:=@PySem.W.plainGet_of
def A53:=@Array.length_toList
def A54:=@Int.toNat_of_nonneg
def A55:=@List.filter_eq_self
def A56:=@List.length_flatMap
def A57:=@PySem.wpAny_isSubtype_exc
def A58:=@PySem.W.looks_mroIn
def A59:=@List.mem_filterMap
def A5A:=@PySem.W.Looks.here
def A5B:=@PySem.W.kitx_tuple
def A5C:=@PySem.wpAny_standAt
def A5D:=@decide_eq_true_iff
def A5E:=@PySem.Code.quiet_builtin
def A5F:=@List.cons.inj
def A5G:=@PySem.Value.ref.inj
def A5H:=@Nat.eq_zero_or_pos
set_option linter.all false
set_option maxRecDepth 100000
set_option maxHeartbeats 4000000
set_option Elab.async false
set_option compiler.extract_closed false
namespace L2
open PySem PySem.Spec PyProof.Rows
abbrev Key:=Sum Int Str
def Re:Key->Value->Bool
 |.inl k,v=>Value.isInt k v
 |.inr x,v=>Value.isStrOf x v
def keyH (w:World):Key->Int
 |.inl k=>hashInt k
 |.inr x=>hashStr w x
theorem C0:∀ {k:Key} {v:Value},Re k v=true->(∃ i t,k=Sum.inl i/\v=Value.int i t)\/(∃ x t,k=Sum.inr x/\v=Value.str x t)
 |.inl i,v,h=>by obtain⟨t,e⟩:=Value.isInt_shape (k:=i) (v:=v) h;exact .inl ⟨i,t,rfl,e⟩
 |.inr x,v,h=>by obtain⟨t,e⟩:=Value.isStrOf_shape (x:=x) (v:=v) h;exact .inr ⟨x,t,rfl,e⟩
theorem Zm (i:Int)(t:Tok):Re (.inl i) (.int i t)=true:=by simp[Re,Value.isInt]
theorem Xt (x:Str)(t:Tok):Re (.inr x) (.str x t)=true:=by simp[Re,Value.isStrOf]
theorem ay5 (a b:Int):decide ((Sum.inl a:Key)=Sum.inl b)=(a==b):=by
 by_cases e:a=b
 . subst e;simp
 have h:¬ (Sum.inl a:Key)=Sum.inl b:=λq=>e (A33 q);rw[A0Q h];exact(A0Y.mpr e).symm
theorem aK6 (a b:Str):decide ((Sum.inr a:Key)=Sum.inr b)=decide (a=b):=by
 by_cases e:a=b
 . subst e;simp
 have h:¬ (Sum.inr a:Key)=Sum.inr b:=λq=>e (Sum.inr.inj q);rw[A0Q h,A0Q e]
theorem aJ1 (a:Int)(b:Str):decide ((Sum.inl a:Key)=Sum.inr b)=false:=A0Q (λq=>nomatch q)
theorem aA7 (a:Str)(b:Int):decide ((Sum.inr a:Key)=Sum.inl b)=false:=A0Q (λq=>nomatch q)
def Ao (prog:Program)(w:World):PySem.KeyKind prog w Key where
 is:=Re
 hash:=keyH w
 inj:=λv a b ha hb=>by
  rcases C0 ha with ⟨i,t,rfl,rfl⟩|⟨x,t,rfl,rfl⟩
  . rcases C0 hb with ⟨j,u,rfl,e⟩|⟨y,u,rfl,e⟩
    . injection e with e1 _;rw[e1]
    exact nomatch e
  rcases C0 hb with ⟨j,u,rfl,e⟩|⟨y,u,rfl,e⟩
  . exact nomatch e
  injection e with e1 _;rw[e1]
 byValue:=λk v h=>by rcases C0 h with ⟨i,t,rfl,rfl⟩|⟨x,t,rfl,rfl⟩<;>rfl
 pyHash:=λhv h=>by
  rcases C0 hv with ⟨i,t,rfl,rfl⟩|⟨x,t,rfl,rfl⟩
  . exact wpAny_pyHash_int h
  exact wpAny_pyHash_str h
 eqBool:=λhu hv h=>by
  rcases C0 hu with ⟨i,t,rfl,rfl⟩|⟨x,t,rfl,rfl⟩
  . rcases C0 hv with ⟨j,u,rfl,rfl⟩|⟨y,u,rfl,rfl⟩
    . rw[ay5] at h;exact wpAny_eqBool_int h
    rw[aJ1] at h;exact SeqAt.EqAt.int_str i t y u _ _ _ _ h
  rcases C0 hv with ⟨j,u,rfl,rfl⟩|⟨y,u,rfl,rfl⟩
  . rw[aA7] at h;exact SeqAt.EqAt.str_int x t j u _ _ _ _ h
  rw[aK6] at h;exact wpAny_eqBool_str h
 «strs»:=λk x t v h=>by
  rcases C0 h with ⟨i,u,rfl,e⟩|⟨y,u,rfl,e⟩
  . exact nomatch e
  injection e with e1 _;subst e1
  cases v<;>rfl
theorem Ue (prog:Program)(w:World)(i:Int)(t:Tok):(Ao prog w).is (.inl i) (.int i t)=true:=Zm i t
theorem Up (prog:Program)(w:World)(x:Str)(t:Tok):(Ao prog w).is (.inr x) (.str x t)=true:=Xt x t
inductive V where
 |non | bl (b:Bool) | int (i:Int) | str (x:Str) | byt (b:Array UInt8) | flt (b:UInt64) | ref (a:Addr) | ty (n:String)
 deriving DecidableEq
def RelV:V->Value->Prop
 |.non,u=>u=Value.none
 |.bl b,u=>u=Value.bool b
 |.int i,u=>∃ t,u=Value.int i t
 |.str x,u=>∃ t,u=Value.str x t
 |.byt b,u=>∃ t,u=Value.bytes b t
 |.flt b,u=>∃ t,u=Value.float b t
 |.ref a,u=>u=Value.ref a
 |.ty n,u=>u=Value.type n
abbrev Vals:List V->List Value->Prop:=Paired RelV
theorem Vals.length {xs:List V} {us:List Value} (r:Vals xs us):xs.length=us.length:=A2U r
theorem Vals.get:∀ {xs:List V} {us:List Value} {i:Nat} {x:V},Vals xs us->xs[i]? = some x->∃ u,us[i]? = some u/\RelV x u
 |_,_,_,_,.nil,e=>by simp at e
 |_,_,0,_,.cons r _,e=>by simp at e;subst e;exact⟨_,rfl,r⟩
 |_,_,i+1,x,.cons _ t,e=>by obtain⟨u,h1,h2⟩:=Vals.get (i:=i) (x:=x) t (by simpa using e);exact⟨u,by simpa using h1,h2⟩
theorem Vals.append:∀ {xs ys:List V} {us ws:List Value},Vals xs us->Vals ys ws->Vals (xs++ys) (us++ws)
 |_,_,_,_,.nil,s=>s
 |_,_,_,_,.cons r t,s=>.cons r (Vals.append t s)
theorem Vals.take:∀ {xs:List V} {us:List Value} (n:Nat),Vals xs us->Vals (xs.take n) (us.take n)
 |_,_,0,_=>.nil
 |_,_,_+1,.nil=>.nil
 |_,_,n+1,.cons r t=>.cons r (Vals.take n t)
theorem Vals.drop:∀ {xs:List V} {us:List Value} (n:Nat),Vals xs us->Vals (xs.drop n) (us.drop n)
 |_,_,0,r=>r
 |_,_,_+1,.nil=>.nil
 |_,_,n+1,.cons _ t=>Vals.drop n t
def RelO:Option V->Option Value->Prop
 |some v,some u=>RelV v u
 |none,none=>True
 |_,_=>False
def KV {κ:Type}:List (κ×V)->List (κ×Value)->Prop:=Paired λ(p:κ×V) (q:κ×Value)=>p.1=q.1/\RelV p.2 q.2
def kV:Key->V
 |.inl i=>.int i
 |.inr x=>.str x
def IsTupN (h:Heap)(a:Addr)(items:Array Value):Prop:=∃ o,h.get? a=some o/\o.cls = .type "tuple" /\ (∃ n,o.data = .seq items n)/\o.dict=none
theorem IsTupN.tup {h:Heap}{a:Addr}{items:Array Value}(x:IsTupN h a items):IsTup h a items:=let ⟨o,h1,h2,⟨n,h3⟩,_⟩:=x;⟨o,h1,h2,n,h3⟩
theorem IsTupN.new (h:Heap)(its:Array Value):IsTupN (h.push {cls:=.type "tuple",data:=.seq its}) h.objs.size its:=⟨_,A0D _ rfl,rfl,⟨_,rfl⟩,rfl⟩
inductive HO where
 |lst (xs:List V)
 |tup (xs:List V)
 |dK (kvs:List (Key×V)) | dT (kvs:List (List Key×V))
 |set (S:Int->Bool) (n:Nat)
 |ins (C dx:Addr) (fs:List (Str×V))
 |own (x:Addr)
 |xd (fs:List (Str×V))
 |met (f x:Addr)
 |rng (lo hi:Int)
 |frz (o:Obj) (u:HO)
 |tbl (ps:Array Value)
 |ext (φ:Heap->Prop)
abbrev Hp:=Addr->Option HO
def upd (H:Hp)(a:Addr)(o:HO):Hp:=λb=>if b=a then some o else H b
theorem A9 {H:Hp}{a:Addr}{o:HO}:upd H a o a=some o:=by unfold upd;rw[if_pos rfl]
theorem Ah {H:Hp}{a b:Addr}{o:HO}(h:b≠a):upd H a o b=H b:=by unfold upd;rw[if_neg h]
theorem ne_of {H:Hp}{a b:Addr}{o u:HO}(h:H a=some o)(h':H b=some u)(d:o≠u):a≠b:=by intro e;subst e;rw[h] at h';exact d (A0O h')
theorem ne_of_none {H:Hp}{a b:Addr}{o:HO}(h:H a=some o)(h':H b=none):a≠b:=by intro e;subst e;rw[h] at h';cases h'
section
variable (P:Program)(w:World)
def ObjOk (H:Hp)(h:Heap)(a:Addr):HO->Prop
 |.lst xs=>xs.length<=sizeLine/\∃(its:List Value) (n:Nat),Vals xs its/\h.get? a=some {cls:=.type "list",data:=.seq its.toArray n}
 |.tup xs=>xs.length<=sizeLine/\∃ its:List Value,Vals xs its/\IsTupN h a its.toArray
 |.dK kvs=>kvs.length<=sizeLine/\(a==sysModules)=false/\∃ vs,KV kvs vs/\h.DictOf (Ao P w) a vs
 |.dT kvs=>kvs.length<=sizeLine/\(a==sysModules)=false/\∃ xs:List (List Key×Addr×Value),
   Paired (λ(p:List Key×V) (q:List Key×Addr×Value)=>p.1=q.1/\H q.2.1=some (.tup (p.1.map kV))/\RelV p.2 q.2.2) kvs xs /\
   ∃ o es ep,h.get? a=some o/\o.ExactDict/\o.data = .dict es ep/\es.toList=xs.map (entryOfKey (tupleKind (Ao P w)))/\(xs.map (·.1)).Nodup
 |.set S n=>h.SetOf (intKind P w) a S n
 |.ins C dx fs=>H dx=some (.own a)/\fs.length<=1000/\dx≠a/\h.get? a=some (W.instObj C dx) /\
   ∃ mA,h.Ns1 dx mA/\(∀ f,RelO (fs.lookup f) (mA f))/\PySem.Within mA (fs.map (·.1))
 |.own _=>∃ o,h.get? a=some o
 |.xd fs=>∃ mA,h.Ns1 a mA/\∀ f,RelO (fs.lookup f) (mA f)
 |.rng lo hi=>∃ t u v,h.get? a=some {cls:=.type "range",data:=.fields #[.int lo t,.int hi u,.int 1 v]}
 |.frz o u=>h.get? a=some o/\ObjOk H h a u
 |.tbl ps=>h.get? a=some {cls:=.none,data:=.fields ps}
 |.met f x=>h.get? a=some (W.methodObj (.ref f) (.ref x))
 |.ext φ=>φ h/\(∃ o,h.get? a=some o)/\∀ h1 h2:Heap,φ h1->(∀ o,h1.get? a=some o->h2.get? a=some o)->φ h2
def HOk (H:Hp)(h:Heap):Prop:=∀ a o,H a=some o->ObjOk P w H h a o
end
section
variable {P:Program}{w:World}{H H':Hp}{h h':Heap}{a:Addr}{o:HO}
theorem ObjOk.lt (x:ObjOk P w H h a o):a<h.objs.size:=by
 cases o with
 |lst xs=>obtain⟨_,_,_,_,e⟩:=x;exact A06 e
 |tup xs=>obtain⟨_,_,_,p⟩:=x;exact p.tup.lt
 |dK kvs=>obtain⟨_,_,_,_,o,_,_,e,_⟩:=x;exact A06 e
 |dT kvs=>obtain⟨_,_,_,_,o,_,_,e,_⟩:=x;exact A06 e
 |set S n=>obtain⟨o,_,_,_,e,_⟩:=x;exact A06 e
 |ins C dx fs=>obtain⟨_,_,_,e,_⟩:=x;exact A06 e
 |own y=>obtain⟨_,e⟩:=x;exact A06 e
 |xd fs=>obtain⟨_,⟨_,_,_,e,_⟩,_⟩:=x;exact A06 e
 |rng lo hi=>obtain⟨_,_,_,e⟩:=x;exact A06 e
 |frz ob u=>obtain⟨e,_⟩:=x;exact A06 e
 |tbl ps=>exact A06 (show h.get? a=some _ from x)
 |met f y=>exact A06 (show h.get? a=some _ from x)
 |ext φ=>obtain⟨_,⟨_,e⟩,_⟩:=x;exact A06 e
theorem Paired.mapP {α β:Type}{F G:α->β->Prop}:∀ {l₁:List α} {l₂:List β},Paired F l₁ l₂->(∀ a b,F a b->G a b)->Paired G l₁ l₂
 |_,_,.nil,_=>.nil
 |_,_,.cons r t,f=>.cons (f _ _ r) (Paired.mapP t f)
theorem ObjOk.stay (x:ObjOk P w H h a o)(k:∀ b u,(b=a\/H b=some (.own a))->h.get? b=some u->h'.get? b=some u)
  (ho:∀ b,H b=some (.own a)->H' b=some (.own a)) (ht:∀ b xs,H b=some (.tup xs)->H' b=some (.tup xs)):ObjOk P w H' h' a o:=by
 induction o with
 |lst xs=>obtain⟨z,its,n,r,e⟩:=x;exact⟨z,its,n,r,k _ _ (.inl rfl) e⟩
 |tup xs=>obtain⟨z,its,r,ob,e,c⟩:=x;exact⟨z,its,r,ob,k _ _ (.inl rfl) e,c⟩
 |dK kvs=>obtain⟨z,y,vs,r,ob,es,ep,e,c⟩:=x;exact⟨z,y,vs,r,ob,es,ep,k _ _ (.inl rfl) e,c⟩
 |dT kvs=>obtain⟨z,y,xs,r,ob,es,ep,e,c⟩:=x;exact⟨z,y,xs,Paired.mapP r λp q z=>⟨z.1,ht _ _ z.2.1,z.2.2⟩,ob,es,ep,k _ _ (.inl rfl) e,c⟩
 |set S n=>obtain⟨ob,es,ep,t,e,c⟩:=x;exact⟨ob,es,ep,t,k _ _ (.inl rfl) e,c⟩
 |ins C dx fs=>obtain⟨d,z,ne,e,mA,⟨od,es,ep,e2,c⟩,r⟩:=x;exact⟨ho _ d,z,ne,k _ _ (.inl rfl) e,mA,⟨od,es,ep,k _ _ (.inr d) e2,c⟩,r⟩
 |own y=>obtain⟨ob,e⟩:=x;exact⟨ob,k _ _ (.inl rfl) e⟩
 |xd fs=>obtain⟨mA,⟨od,es,ep,e,c⟩,r⟩:=x;exact⟨mA,⟨od,es,ep,k _ _ (.inl rfl) e,c⟩,r⟩
 |rng lo hi=>obtain⟨t,u,v,e⟩:=x;exact⟨t,u,v,k _ _ (.inl rfl) e⟩
 |frz ob u ih=>obtain⟨e,q⟩:=x;exact⟨k _ _ (.inl rfl) e,ih q⟩
 |tbl ps=>have e:h.get? a=some {cls:=.none,data:=.fields ps}:=x;show h'.get? a=some {cls:=.none,data:=.fields ps};exact k a _ (.inl rfl) e
 |met f y=>have e:h.get? a=some (W.methodObj (.ref f) (.ref y)):=x;show h'.get? a=some (W.methodObj (.ref f) (.ref y));exact k a _ (.inl rfl) e
 |ext φ=>obtain⟨p,⟨o,e⟩,st⟩:=x;exact⟨st _ _ p λo q=>k _ _ (.inl rfl) q,⟨o,k _ _ (.inl rfl) e⟩,st⟩
theorem HOk.lt (x:HOk P w H h)(e:H a=some o):a<h.objs.size:=(x a o e).lt
theorem HOk.fresh (x:HOk P w H h)(e:h.objs.size<=a):H a=none:=by
 cases q:H a with
 |none=>rfl
 |some u=>exact absurd (A10 (x.lt q) e) (A1P _)
theorem HOk.kept (x:HOk P w H h)(k:∀ b u,h.get? b=some u->h'.get? b=some u):HOk P w H h':=λa o e=>
 (x a o e).stay (λb u _ q=>k b u q) (λ_ q=>q) λ_ _ q=>q
theorem HOk.laid (x:HOk P w H h)(k:∀ b u,h.get? b=some u->h'.get? b=some u)(hp:h.objs.size<=a)(new:ObjOk P w (upd H a o) h' a o):HOk P w (upd H a o) h':=λb u e=>by
 have hn:=x.fresh hp
 by_cases hb:b=a
 . subst hb;rw[A9] at e;cases e;exact new
 rw[Ah hb] at e;exact(x b u e).stay (λc v _ q=>k c v q) (λc q=>by rw[Ah (ne_of_none q hn)];exact q) λc xs q=>by rw[Ah (ne_of_none q hn)];exact q
end
def Rd (H:Hp)(a:Addr)(u:HO):Prop:=H a=some u\/∃ o,H a=some (.frz o u)
theorem Rd.ok {P:Program}{w:World}{H:Hp}{h:Heap}{a:Addr}{u:HO}(r:Rd H a u)(x:HOk P w H h):ObjOk P w H h a u:=by
 rcases r with r|⟨o,r⟩
 . exact x a u r
 obtain⟨_,q⟩:=x a _ r;exact q
def Mut:Option HO->Prop
 |some (.lst _)=>True
 |some (.dK _)=>True
 |some (.dT _)=>True
 |some (.set _ _)=>True
 |some (.ins _ _ _)=>True
 |some (.ext _)=>True
 |_=>False
section
variable {P:Program}{w:World}{H:Hp}{h h':Heap}{x e:Addr}{o':HO}
theorem HOk.write (ok:HOk P w H h)(mu:Mut (H x))(he:e=x\/H e=some (.own x))(k:∀ b u,b≠e->h.get? b=some u->h'.get? b=some u)(heo:∃ u,h'.get? e=some u)
  (new:ObjOk P w (upd H x o') h' x o'):HOk P w (upd H x o') h':=λb u q=>by
 have nown:∀ c y,H c=some (.own y)->c≠x:=λc y r z=>by subst z;rw[r] at mu;exact mu
 have ntup:∀ c xs,H c=some (.tup xs)->c≠x:=λc xs r z=>by subst z;rw[r] at mu;exact mu
 by_cases hb:b=x
 . subst hb;rw[A9] at q;cases q;exact new
 rw[Ah hb] at q
 by_cases hbe:b=e
 . have q':H b=some (.own x):=by
    rcases he with z|z
    . exact absurd (hbe.trans z) hb
    rw[hbe];exact z
   rw[q] at q';cases q';obtain⟨v,hv⟩:=heo;exact⟨v,by rw[hbe];exact hv⟩
 refine(ok b u q).stay (λc v hc r=>k c v ?_ r) (λc r=>by rw[Ah (nown c b r)];exact r) λc xs r=>by rw[Ah (ntup c xs r)];exact r
 rcases hc with rfl|hc
 . exact hbe
 rintro rfl;rcases he with z|z
 . exact nown c b hc z
 rw[hc] at z;cases z;exact hb rfl
end
structure Un (fs ex:List Addr)(H H':Hp)(h h':Heap):Prop where
 keep:∀ b o,h.get? b=some o->H b=none->b∉fs->b∉ex->h'.get? b=some o
 slot:∀ b o,h.get? b=some o->H b=none->b∈fs->b∉ex->∃ sl,h'.get? b=some {o with slots:=sl}
 free:∀ b o,h.get? b=some o->H b=none->b∉ex->H' b=none
 there:∀ b o,h.get? b=some o->b∉ex->∃ o',h'.get? b=some o'
 tups:∀ b xs,H b=some (.tup xs)->H' b=some (.tup xs)
 frzs:∀ b o u,H b=some (.frz o u)->H' b=some (.frz o u)
 tbls:∀ b ps,H b=some (.tbl ps)->∃ more,H' b=some (.tbl (ps++more))
section
variable {fs fs' ex ex':List Addr}{H H1 H2:Hp}{h h1 h2 h':Heap}{a x e:Addr}{o:HO}
theorem Un.any (u:Un fs ex H H1 h h1){b:Addr}{ob:Obj}(q:h.get? b=some ob)(n:H b=none)(hx:b∉ex):∃ sl,h1.get? b=some {ob with slots:=sl}:=by
 by_cases hb:b∈fs
 . exact u.slot b ob q n hb hx
 exact⟨ob.slots,u.keep b ob q n hb hx⟩
theorem Un.kept (k:∀ b u,h.get? b=some u->h'.get? b=some u):Un fs ex H H h h':=
 ⟨λb ob q _ _ _=>k b ob q,λb ob q _ _ _=>⟨ob.slots,k b ob q⟩,λ_ _ _ n _=>n,λb ob q _=>⟨ob,k b ob q⟩,λ_ _ q=>q,λ_ _ _ q=>q,λ_ ps q=>⟨#[],by rw[q];simp⟩⟩
theorem Un.refl:Un fs ex H H h h:=Un.kept λ_ _ q=>q
theorem Un.laid (k:∀ b u,h.get? b=some u->h'.get? b=some u)(hp:h.objs.size<=a)(hn:H a=none):Un fs ex H (upd H a o) h h' where
 keep:=λb u q _ _ _=>k b u q
 slot:=λb u q _ _ _=>⟨u.slots,k b u q⟩
 free:=λb u q n _=>by rw[Ah (A0K (A10 (A06 q) hp))];exact n
 there:=λb u q _=>⟨u,k b u q⟩
 tups:=λb xs q=>by rw[Ah (ne_of_none q hn)];exact q
 frzs:=λb u xs q=>by rw[Ah (ne_of_none q hn)];exact q
 tbls:=λb ps q=>⟨#[],by rw[Ah (ne_of_none q hn),q];simp⟩
theorem Un.write (mu:Mut (H x))(he:e=x\/H e=some (.own x))(k:∀ b u,b≠e->h.get? b=some u->h'.get? b=some u)(heo:∃ u,h'.get? e=some u):Un fs ex H (upd H x o) h h':=by
 have hx:∀ b,H b=none->b≠x:=λb n z=>by subst z;rw[n] at mu;exact mu
 have hb:∀ b,H b=none->b≠e:=λb n z=>by
  subst z;rcases he with r|r
  . exact hx b n r
  rw[n] at r;cases r
 have hm:∀ b u,H b=some u->¬ Mut (some u)->b≠x:=λb u q nm z=>by subst z;rw[q] at mu;exact nm mu
 refine⟨λb u q n _ _=>k b u (hb b n) q,λb u q n _ _=>⟨u.slots,k b u (hb b n) q⟩,λb u q n _=>by rw[Ah (hx b n)];exact n,λb u q _=>?_,
  λb xs q=>by rw[Ah (hm b _ q λz=>z)];exact q,λb u xs q=>by rw[Ah (hm b _ q λz=>z)];exact q,λb ps q=>⟨#[],by rw[Ah (hm b _ q λz=>z),q];simp⟩⟩
 by_cases hbe:b=e
 . subst hbe;exact heo
 exact⟨u,k b u hbe q⟩
end
def trk (h:Heap)(H:Hp):List Addr:=(List.range h.objs.size).filter λa=>(H a).isSome
def a92 (h:Heap)(H:Hp):Heap:=W.hideAll h (trk h H)
theorem Zw (h:Heap)(H:Hp):(a92 h H).objs.size=h.objs.size:=W.hideAll_size _ _
theorem ab8 {h:Heap}{H:Hp}{b:Addr}{o:Obj}(e:h.get? b=some o)(n:H b=none):(a92 h H).get? b=some o:=
 W.hideAll_get _ e λhm=>by have q:(H b).isSome=true:=(A15.mp hm).2;rw[n] at q;simp at q
theorem au6 {h:Heap}{H:Hp}{b:Addr}{o:Obj}(e:(a92 h H).get? b=some o):h.get? b=some o/\H b=none:=by
 have e':h.get? b=some o:=W.of_hideAll (trk h H) e;refine⟨e',?_⟩
 cases q:H b with
 |none=>rfl
 |some x=>have hm:b∈trk h H:=List.mem_filter.mpr ⟨List.mem_range.mpr (Heap.lt_size e'),by simp[q]⟩;have z:(a92 h H).get? b=none:=W.hideAll_none (trk h H) hm;rw[z] at e;cases e
def Ix (g h:Heap)(L:Addr):List (Addr×Obj):=(List.range h.objs.size).filterMap λa=>if a=L\/(g.get? a).isSome=true then none else(h.get? a).map λo=>(a,o)
theorem Ur {g h:Heap}{L a:Addr}{o:Obj}(h1:a≠L)(h2:g.get? a=none)(h3:h.get? a=some o):(a,o)∈Ix g h L:=
 List.mem_filterMap.mpr ⟨a,List.mem_range.mpr (Heap.lt_size h3),by simp[h1,h2,h3]⟩
theorem Om {g h:Heap}{L:Addr}{p:Addr×Obj}(hp:p∈Ix g h L):p.1≠L/\g.get? p.1=none/\h.get? p.1=some p.2:=by
 obtain⟨b,_,e⟩:=A59.mp hp
 split at e
 . cases e
 rename_i hn
 cases q:h.get? b with
 |none=>rw[q] at e;simp at e
 |some u=>
   rw[q] at e;simp only[Option.map_some,Option.some.injEq] at e;subst e;refine⟨λz=>hn (.inl z),?_,q⟩;show g.get? b=none
   cases r:g.get? b with
   |none=>rfl
   |some v=>exact(hn (.inr (by simp[r]))).elim
def rest (g h:Heap)(L d:Addr):List (Addr×Obj):=(Ix g h L).filter λp=>decide (p.1≠d)
theorem aa1 {g h:Heap}{L:Addr}:News g L h (Ix g h L):=λp hp=>let ⟨a,b,c⟩:=Om hp;⟨c,a,b⟩
structure Mod (K:W.Frag)(mg:Str->Option Value)(base:Heap):Prop where
 kin:K.In base
 glob:base.Ns mainGlobals mg
 blt:∃ mb,base.Ns builtinsNs mb/\∀ x:Str,x ≠ "__name__" -> mb x=bootBuiltins x
 nolimit:base.NoLimit
/-- the context: a def's body (or a comprehension's block) running. base: fixed through the whole law;s₀,H₀: the entry;outer: the frames whose slots others may change (a def's callers);stack: all frames that run;
  ex: iterators that were made ahead of the entry and are walked here (a comprehension's);fn: the names whose cells were made at the entry (a def: all;a comprehension's block: its own);calm: not within an except suite;pn: pins that every state bears;xe: what is wanted of an exception that leaves the code -/
structure Cx where
 prog:Program
 w:World
 K:W.Frag
 mg:Str->Option Value
 base:Heap
 A:Around
 N:List Str
 s₀:Shared
 H₀:Hp
 env:Env
 outer:List Env
 stack:List Env
 ex:List Addr
 fn:Str->Bool
 calm:Bool
 pn:List (Addr×Obj)
 xe:Value->Shared->Prop
def frs (l:List Env):List Addr:=l.filterMap (·.frame)
abbrev Cx.fs (X:Cx):List Addr:=frs X.outer
def Vis (sc:Scope)(x:Str):Prop:=sc.names.lookup x=some .local\/sc.names.lookup x=some .cell\/sc.names.lookup x=some .free
def Loc (sc:Scope)(x:Str):Prop:=sc.names.lookup x=some .local\/sc.names.lookup x=some .cell
def aQ6 (env:Env)(h:Heap)(m:Str->Option Value)(x:Str)(u:Value):Prop:=
 (env.kindOf x=some .local/\m x=some u)\/((env.kindOf x=some .cell\/env.kindOf x=some .free)/\∃ c,env.cells.lookup x=some c/\h.IsCell c (some u))
structure Cx.Ok (X:Cx):Prop where
 mod:Mod X.K X.mg X.base
 kind:X.env.scope.kind = .function
 glob:X.env.globals=mainGlobals
 blt:X.env.builtins=builtinsNs
 above:X.s₀.heap.objs.size<=X.env.locals
 inj:∀ x y c,X.env.cells.lookup x=some c->X.env.cells.lookup y=some c->x=y
 has:∀ x,(X.env.kindOf x=some .cell\/X.env.kindOf x=some .free)->∃ c,X.env.cells.lookup x=some c
 cab:∀ x c,X.fn x=true->X.env.cells.lookup x=some c->X.s₀.heap.objs.size<=c
 hd:X.calm=true->X.A.handled=none
 frames:X.A.frames=some X.stack
 stk:X.stack=X.outer\/(X.stack=X.env :: X.outer/\X.env.frame=some X.env.locals)
 exf:∀ b∈X.ex,b≠X.env.locals/\∀ x c,X.env.cells.lookup x=some c->c≠b
 bs:∀ b o,X.base.get? b=some o->X.s₀.heap.get? b=some o/\X.H₀ b=none
 bsz:X.base.objs.size<=X.s₀.heap.objs.size
 noex:∀ b o,X.base.get? b=some o->b∉X.ex
 exfs:∀ b∈X.ex,b∉X.fs
 funs:X.s₀.heap.FunFrames X.base X.outer
 frf:∀ b∈X.fs,X.H₀ b=none
structure Inv (X:Cx)(pins:List (Addr×Obj))(σ:List (Option V))(H:Hp)(s:Shared):Prop where
 ok:X.Ok
 os:s.os=X.s₀.os
 bare:AllBare s.gens
 base:Un X.fs X.ex X.H₀ H X.s₀.heap s.heap
 loc:∃ m,s.heap.Ns X.env.locals m/\∀(i:Nat) (x:Str) (v:V),X.N[i]? = some x->σ[i]? = some (some v)->Vis X.env.scope x->∃ u,RelV v u/\aQ6 X.env s.heap m x u
 cell:∀ x c,X.env.cells.lookup x=some c->∃ v,s.heap.IsCell c v
 free:H X.env.locals=none
 freeC:∀ x c,X.env.cells.lookup x=some c->H c=none
 pin:∀ p∈X.pn++pins,s.heap.get? p.1=some p.2/\H p.1=none/\p.1≠X.env.locals/\p.1∉X.fs/\∀ v,p.2.data ≠ .cell v
 hok:HOk X.prog X.w H s.heap
 len:σ.length=X.N.length
section
variable {X:Cx}{pins:List (Addr×Obj)}{σ:List (Option V)}{H H':Hp}{s:Shared}{h':Heap}
theorem Cx.Ok.nofr (ok:X.Ok){b:Addr}{o:Obj}(e:X.base.get? b=some o):b∉X.fs:=λhb=>by have:=(ok.funs.mem hb).1;rw[e] at this;cases this
theorem Inv.bs (I:Inv X pins σ H s):∀ b o,X.base.get? b=some o->s.heap.get? b=some o/\H b=none:=λb o e=>
 ⟨I.base.keep b o (I.ok.bs b o e).1 (I.ok.bs b o e).2 (I.ok.nofr e) (I.ok.noex b o e),I.base.free b o (I.ok.bs b o e).1 (I.ok.bs b o e).2 (I.ok.noex b o e)⟩
theorem Inv.bk (I:Inv X pins σ H s):∀ b o,X.base.get? b=some o->s.heap.get? b=some o:=λb o e=>(I.bs b o e).1
theorem Inv.mod (I:Inv X pins σ H s):Mod X.K X.mg X.base:=I.ok.mod
theorem Inv.kIn (I:Inv X pins σ H s):X.K.In s.heap:=I.ok.mod.kin.keeps I.bk
theorem Inv.lt (I:Inv X pins σ H s):X.env.locals<s.heap.objs.size:=let ⟨_,hn,_⟩:=I.loc;hn.lt
theorem Inv.sz (I:Inv X pins σ H s):X.s₀.heap.objs.size<=s.heap.objs.size:=A0L I.ok.above (A25 I.lt)
theorem Inv.nofs (I:Inv X pins σ H s){a:Addr}(h:s.heap.objs.size<=a):a∉X.fs:=λhb=>by obtain⟨_,o,ho,_⟩:=I.ok.funs.mem hb;exact absurd (A10 (A06 ho) (A0L I.sz h)) (A1P _)
theorem Inv.cne (I:Inv X pins σ H s):∀ x c,X.env.cells.lookup x=some c->c≠X.env.locals:=λx c e z=>by obtain⟨v,o,ho,hd⟩:=I.cell x c e;obtain⟨m,⟨o',es,ep,ho',hd',_⟩,_⟩:=I.loc;rw[z,ho'] at ho;cases ho;rw[hd'] at hd;cases hd
theorem Inv.funs (I:Inv X pins σ H s):s.heap.FunFrames X.base X.outer:=by
 have all:∀(l:List Env),(∀ b∈frs l,b∈X.fs)->X.s₀.heap.FunFrames X.base l->s.heap.FunFrames X.base l:=by
  intro l
  induction l with
  |nil=>intro _ _;trivial
  |cons env r ih=>intro hs hl;obtain⟨hk,⟨L,o,hf,hn,ho,hd⟩,hr⟩:=hl;have hL:L∈X.fs:=hs L (by unfold frs;rw[List.filterMap_cons,hf];exact List.mem_cons_self);obtain⟨sl,e⟩:=I.base.slot L o ho (I.ok.frf L hL) hL λz=>I.ok.exfs L z hL;exact⟨hk,⟨L,_,hf,hn,e,hd⟩,ih (λb hb=>hs b (by unfold frs;rw[List.filterMap_cons,hf];exact List.mem_cons_of_mem _ hb)) hr⟩
 exact all X.outer (λ_ hb=>hb) I.ok.funs
theorem Inv.stack (I:Inv X pins σ H s):s.heap.FunFrames X.base X.stack:=by
 rcases I.ok.stk with e|⟨e,hf⟩
 . rw[e];exact I.funs
 rw[e];obtain⟨m,hn,_⟩:=I.loc;refine .cons (by rw[I.ok.kind];decide) hf hn ?_ I.funs;exact Heap.get?_none_of_le (A0L I.ok.bsz I.ok.above)
theorem Inv.stkSub (I:Inv X pins σ H s):∀ b∈frs X.stack,b∈X.env.locals :: X.fs:=λb hb=>by
 rcases I.ok.stk with e|⟨e,hf⟩
 . rw[e] at hb;exact A0B _ hb
 rw[e] at hb;unfold frs at hb;rw[List.filterMap_cons,hf] at hb;exact hb
theorem Inv.stkFree (I:Inv X pins σ H s):∀ b∈frs X.stack,H b=none:=λb hb=>by
 rcases A0C.mp (I.stkSub b hb) with e|hb
 . rw[e];exact I.free
 obtain⟨_,o,ho,_⟩:=I.ok.funs.mem hb;exact I.base.free b o ho (I.ok.frf b hb) λz=>I.ok.exfs b z hb
theorem Inv.step {g':Array GenState}{t':Nat}{d':Drawn}{ch:List Addr}(I:Inv X pins σ H s)
  (hch:∀ b∈ch,(b∈X.ex\/X.s₀.heap.objs.size<=b)/\b≠X.env.locals/\(∀ x c,X.env.cells.lookup x=some c->c≠b)/\∀ p∈X.pn++pins,p.1≠b)
  (keep:∀ b o,b≠X.env.locals->b∉X.fs->b∉ch->s.heap.get? b=some o->H b=none->h'.get? b=some o)
  (slot:∀ b o,b≠X.env.locals->b∈X.fs->b∉ch->s.heap.get? b=some o->H b=none->∃ sl,h'.get? b=some {o with slots:=sl}) (free:∀ b o,b∉ch->s.heap.get? b=some o->H b=none->H' b=none)
  (there:∀ b o,b∉ch->s.heap.get? b=some o->∃ o',h'.get? b=some o')
  (tups:∀ b xs,H b=some (.tup xs)->H' b=some (.tup xs)) (frzs:∀ b o u,H b=some (.frz o u)->H' b=some (.frz o u)) (tbls:∀ b ps,H b=some (.tbl ps)->∃ more,H' b=some (.tbl (ps++more)))
  (ns:∀ m,s.heap.Ns X.env.locals m->h'.Ns X.env.locals m) (hok:HOk X.prog X.w H' h') (hg:AllBare g') :
  Inv X pins σ H' {s with heap:=h',gens:=g',drawn:=d',toks:=t'}:=by
 have neL:∀ b o,X.s₀.heap.get? b=some o->b≠X.env.locals:=λb o e=>A0K (A10 (A06 e) I.ok.above)
 have neC:∀ b o,X.s₀.heap.get? b=some o->b∉X.ex->b∉ch:=λb o e hx hb=>by
  rcases(hch b hb).1 with z|z
  . exact hx z
  exact absurd (A10 (A06 e) z) (A1P _)
 have cellK:∀ x c,X.env.cells.lookup x=some c->∀ v,s.heap.IsCell c v->h'.IsCell c v:=λx c e v ⟨o,ho,hd⟩=>by
  have nch:c∉ch:=λz=>(hch c z).2.2.1 x c e rfl
  by_cases hc:c∈X.fs
  . obtain⟨sl,q⟩:=slot c o (I.cne x c e) hc nch ho (I.freeC x c e);exact⟨_,q,hd⟩
  exact⟨o,keep c o (I.cne x c e) hc nch ho (I.freeC x c e),hd⟩
 refine⟨I.ok,I.os,hg,⟨λb o e n hb hx=>?_,λb o e n hb hx=>?_,λb o e n hx=>?_,λb o e hx=>?_,λb xs e=>tups b xs (I.base.tups b xs e),λb o xs e=>frzs b o xs (I.base.frzs b o xs e),λb ps e=>?_⟩,?_,λx c e=>?_,?_,λx c e=>?_,λp hp=>?_,hok,I.len⟩
 . exact keep b o (neL b o e) hb (neC b o e hx) (I.base.keep b o e n hb hx) (I.base.free b o e n hx)
 . obtain⟨sl,e1⟩:=I.base.slot b o e n hb hx;obtain⟨sl',e2⟩:=slot b _ (neL b o e) hb (neC b o e hx) e1 (I.base.free b o e n hx);exact⟨sl',e2⟩
 . obtain⟨o',e1⟩:=I.base.there b o e hx;exact free b o' (neC b o e hx) e1 (I.base.free b o e n hx)
 . obtain⟨o',e1⟩:=I.base.there b o e hx;exact there b o' (neC b o e hx) e1
 . obtain⟨m1,e1⟩:=I.base.tbls b ps e;obtain⟨m2,e2⟩:=tbls b _ e1;exact⟨m1++m2,by rw[e2,Array.append_assoc]⟩
 . obtain⟨m,hn,hl⟩:=I.loc;refine⟨m,ns m hn,λi x v e1 e2 e3=>?_⟩;obtain⟨u,r,l⟩:=hl i x v e1 e2 e3;refine⟨u,r,?_⟩;rcases l with l|⟨k,c,e,z⟩
   . exact .inl l
   exact .inr ⟨k,c,e,cellK x c e _ z⟩
 . obtain⟨v,z⟩:=I.cell x c e;exact⟨v,cellK x c e v z⟩
 . obtain⟨m,⟨o,_,_,ho,_⟩,_⟩:=I.loc;exact free _ o (λz=>(hch _ z).2.1 rfl) ho I.free
 . obtain⟨v,o,ho,hd⟩:=I.cell x c e;exact free c o (λz=>(hch c z).2.2.1 x c e rfl) ho (I.freeC x c e)
 obtain⟨e,n,ne,nf,d⟩:=I.pin p hp;have nch:p.1∉ch:=λz=>(hch p.1 z).2.2.2 p hp rfl;exact⟨keep p.1 p.2 ne nf nch e n,free p.1 p.2 nch e n,ne,nf,d⟩
theorem Inv.un {t':Nat}(I:Inv X pins σ H s)(u:Un X.fs [] H H' s.heap h')(hok:HOk X.prog X.w H' h'):Inv X pins σ H' {s with heap:=h',toks:=t'}:=by
 obtain⟨m,⟨o,es,ep,ho,r⟩,_⟩:=id I.loc;obtain⟨sl,hL⟩:=u.any ho I.free (by simp)
 exact I.step (g':=s.gens) (d':=s.drawn) (ch:=[]) (λ_ z=>nomatch z) (λb o _ hb _ e n=>u.keep b o e n hb (by simp)) (λb o _ hb _ e n=>u.slot b o e n hb (by simp)) (λb o _ e n=>u.free b o e n (by simp)) (λb o _ e=>u.there b o e (by simp)) u.tups u.frzs u.tbls (λm' hm=>by obtain⟨o',es',ep',ho',r'⟩:=hm;rw[ho] at ho';cases ho';exact⟨_,es',ep',hL,r'⟩) hok I.bare
theorem Inv.call {g':Array GenState}{t':Nat}{d':Drawn}{ch:List Addr}(I:Inv X pins σ H s)(u:Un (frs X.stack) ch H H' s.heap h')(hok:HOk X.prog X.w H' h')(hg:AllBare g')
  (hch:∀ b∈ch,(b∈X.ex\/X.s₀.heap.objs.size<=b)/\b≠X.env.locals/\(∀ x c,X.env.cells.lookup x=some c->c≠b)/\∀ p∈X.pn++pins,p.1≠b) :
  Inv X pins σ H' {s with heap:=h',gens:=g',drawn:=d',toks:=t'}:=by
 obtain⟨m,⟨o,es,ep,ho,r⟩,_⟩:=id I.loc;obtain⟨sl,hL⟩:=u.any ho I.free λz=>(hch _ z).2.1 rfl
 exact I.step (ch:=ch) hch (λb o hL hb hc e n=>u.keep b o e n (λz=>(A0C.mp (I.stkSub b z)).elim hL hb) hc) (λb o _ _ hc e n=>u.any e n hc) (λb o hc e n=>u.free b o e n hc) (λb o hc e=>u.there b o e hc) u.tups u.frzs u.tbls (λm' hm=>by obtain⟨o',es',ep',ho',r'⟩:=hm;rw[ho] at ho';cases ho';exact⟨_,es',ep',hL,r'⟩) hok hg
theorem Inv.turned {t':Nat}{it:Addr}(I:Inv X pins σ H s)(k:∀ b o,b≠it->s.heap.get? b=some o->h'.get? b=some o)(hn:H it=none)(hL:it≠X.env.locals)
  (h1:it∈X.ex\/X.s₀.heap.objs.size<=it) (h2:∀ x c,X.env.cells.lookup x=some c->c≠it) (h3:∀ p∈X.pn++pins,p.1≠it):Inv X pins σ H {s with heap:=h',toks:=t'}:=by
 have nit:∀ b u,H b=some u->b≠it:=λb u e z=>by rw[z,hn] at e;cases e
 refine I.step (g':=s.gens) (d':=s.drawn) (ch:=[it]) (λb hb=>?_) (λb o _ _ hc e _=>k b o (λz=>hc (by simp[z])) e) (λb o _ _ hc e _=>⟨o.slots,k b o (λz=>hc (by simp[z])) e⟩) (λ_ _ _ _ n=>n)
  (λb o hc e=>⟨o,k b o (λz=>hc (by simp[z])) e⟩) (λ_ _ e=>e) (λ_ _ _ e=>e) (λb ps e=>⟨#[],by rw[e];simp⟩) (λm hm=>?_) (λb u e=>?_) I.bare
 . have e:b=it:=by simpa using hb
   subst e;exact⟨h1,hL,h2,h3⟩
 . obtain⟨o,es,ep,ho,r⟩:=hm;exact⟨o,es,ep,k _ o (Ne.symm hL) ho,r⟩
 refine(I.hok b u e).stay (λc v hc q=>k c v ?_ q) (λ_ q=>q) λ_ _ q=>q;rcases hc with z|z
 . rw[z];exact nit b u e
 exact nit c _ z
theorem Inv.tok (I:Inv X pins σ H s)(t:Nat):Inv X pins σ H {s with toks:=t}:=I.un (h':=s.heap) (t':=t) Un.refl I.hok
theorem Inv.kept {t':Nat}(I:Inv X pins σ H s)(k:∀ b u,s.heap.get? b=some u->h'.get? b=some u):Inv X pins σ H {s with heap:=h',toks:=t'}:=I.un (Un.kept k) (I.hok.kept k)
theorem Inv.laid {a:Addr}{o:HO}{t':Nat}(I:Inv X pins σ H s)(k:∀ b u,s.heap.get? b=some u->h'.get? b=some u)(hp:s.heap.objs.size<=a)(new:ObjOk X.prog X.w (upd H a o) h' a o) :
  Inv X pins σ (upd H a o) {s with heap:=h',toks:=t'}:=I.un (Un.laid k hp (I.hok.fresh hp)) (I.hok.laid k hp new)
theorem Inv.write {x e:Addr}{o:HO}{t':Nat}(I:Inv X pins σ H s)(mu:Mut (H x))(he:e=x\/H e=some (.own x))(k:∀ b u,b≠e->s.heap.get? b=some u->h'.get? b=some u)(heo:∃ u,h'.get? e=some u)
  (new:ObjOk X.prog X.w (upd H x o) h' x o):Inv X pins σ (upd H x o) {s with heap:=h',toks:=t'}:=I.un (Un.write mu he k heo) (I.hok.write mu he k heo new)
theorem Inv.weak {σ':List (Option V)}(I:Inv X pins σ H s)(hl:σ'.length=σ.length)(w:∀(i:Nat) v,σ'[i]? = some (some v)->σ[i]? = some (some v)):Inv X pins σ' H s:=
 ⟨I.ok,I.os,I.bare,I.base,let ⟨m,hn,hl'⟩:=I.loc;⟨m,hn,λi x v e1 e2 e3=>hl' i x v e1 (w i v e2) e3⟩,I.cell,I.free,I.freeC,I.pin,I.hok,hl.trans I.len⟩
theorem Inv.pins_of {pins':List (Addr×Obj)}(I:Inv X pins σ H s)(h:∀ p∈pins',s.heap.get? p.1=some p.2/\H p.1=none/\p.1≠X.env.locals/\p.1∉X.fs/\∀ v,p.2.data ≠ .cell v):Inv X pins' σ H s:=
 ⟨I.ok,I.os,I.bare,I.base,I.loc,I.cell,I.free,I.freeC,λp hp=>(A0G.mp hp).elim (λz=>I.pin p (A0X _ z)) (h p),I.hok,I.len⟩
theorem Ri {N:List Str}(hN:N.Nodup){i j:Nat}{x:Str}(a:N[i]? = some x)(b:N[j]? = some x):i=j:=by obtain⟨h1,e1⟩:=A00.mp a;obtain⟨h2,e2⟩:=A00.mp b;exact(A1G hN).mp (e1.trans e2.symm)
theorem Sf {M:Model}{A:Around}{E:Value->Shared->Prop}{i:Nat}{x:Str}{v:V}{u:Value}{Q:Unit->Shared->Prop}(I:Inv X pins σ H s)(hN:X.N.Nodup)(hi:X.N[i]? = some x)(hx:Loc X.env.scope x)(r:RelV v u)
  (h:∀ s',Inv X pins (σ.set i (some v)) H s'->(∃ a,Heap.SameBut a s.heap s'.heap/\(a=X.env.locals\/X.env.cells.lookup x=some a))->Q () s') (hf:X.fn x=true\/X.env.scope.names.lookup x=some .local:=by with_unfolding_all (first | exact .inl rfl | exact .inr rfl | assumption)):wpAny M A (storeName X.env x u) Q E s:=by
 obtain⟨m,hn,hl⟩:=id I.loc;have hcls:(X.env.scope.kind == .class||(X.env.scope.kind == .module&&X.env.locals != X.env.globals))=false:=by rw[I.ok.kind];rfl
 have hiσ:i<σ.length:=by rw[I.len];exact(A00.mp hi).1
 have cne:=I.cne
 have tracked:∀ {a:Addr} {h':Heap},(∃ o,s.heap.get? a=some o/\H a=none)->Heap.SameBut a s.heap h'->HOk X.prog X.w H h':=fun {a h'} ha hs b ob e=>by
  obtain⟨_,_,hfree⟩:=ha;refine(I.hok b ob e).stay (λc w' hc q=>(hs.2 c ?_).trans q) (λ_ q=>q) λ_ _ q=>q;rintro rfl;rcases hc with rfl|hc
  . rw[hfree] at e;cases e
  rw[hfree] at hc;cases hc
 rcases hx with hk|hk
 . refine wpAny_storeName_local hk hn (λh' hn' hs=>?_) hcls;obtain⟨oL,_,_,hoL,_⟩:=id hn;refine h _ ⟨I.ok,I.os,I.bare,⟨λb o e n hb hx=>?_,λb o e n hb hx=>?_,I.base.free,λb o e hx=>?_,I.base.tups,I.base.frzs,I.base.tbls⟩,⟨_,hn',λj y v' e1 e2 e3=>?_⟩,λy c e=>?_,I.free,I.freeC,λp hp=>?_,tracked ⟨oL,hoL,I.free⟩ hs,by simpa using I.len⟩ ⟨_,hs,.inl rfl⟩
   . exact(hs.2 b (A0K (A10 (A06 e) I.ok.above))).trans (I.base.keep b o e n hb hx)
   . obtain⟨sl,e1⟩:=I.base.slot b o e n hb hx;exact⟨sl,(hs.2 b (A0K (A10 (A06 e) I.ok.above))).trans e1⟩
   . obtain⟨o',e1⟩:=I.base.there b o e hx;exact⟨o',(hs.2 b (A0K (A10 (A06 e) I.ok.above))).trans e1⟩
   . by_cases hj:j=i
     . subst hj;rw[hi] at e1;cases e1;rw[A3C hiσ] at e2
       cases e2;exact⟨u,r,.inl ⟨hk,by simp⟩⟩
     rw[A2W (Ne.symm hj)] at e2;obtain⟨u',r',q⟩:=hl j y v' e1 e2 e3;refine⟨u',r',?_⟩;rcases q with ⟨k,e⟩|⟨k,c,e,z⟩
     . refine .inl ⟨k,?_⟩;have:y≠x:=λe=>hj (Ri hN e1 (e ▸ hi));simp[this,e]
     exact .inr ⟨k,c,e,z.sameBut hs (cne y c e)⟩
   . obtain⟨w',z⟩:=I.cell y c e;exact⟨w',z.sameBut hs (cne y c e)⟩
   obtain⟨e,n,ne,nf,d⟩:=I.pin p hp;exact⟨(hs.2 p.1 ne).trans e,n,ne,nf,d⟩
 have hfn:X.fn x=true:=by
  rcases hf with z|z
  . exact z
  rw[z] at hk;cases hk
 obtain⟨c,hc⟩:=I.ok.has x (.inl hk);obtain⟨w',z⟩:=I.cell x c hc;refine wpAny_storeName_cell I.ok.kind hk hc z (λh' hc' hs=>?_);obtain⟨oc,hoc,hocd⟩:=id z;refine h {s with heap:=h'} ⟨I.ok,I.os,I.bare,⟨λb o e n hb hx=>?_,λb o e n hb hx=>?_,I.base.free,λb o e hx=>?_,I.base.tups,I.base.frzs,I.base.tbls⟩,⟨m,hn.sameBut hs (Ne.symm (cne x c hc)),λj y v' e1 e2 e3=>?_⟩,λy c' e=>?_,I.free,I.freeC,λp hp=>?_,tracked ⟨oc,hoc,I.freeC x c hc⟩ hs,by simpa using I.len⟩ ⟨c,hs,.inr hc⟩
 . exact(hs.2 b (A0K (A10 (A06 e) (I.ok.cab x c hfn hc)))).trans (I.base.keep b o e n hb hx)
 . obtain⟨sl,e1⟩:=I.base.slot b o e n hb hx;exact⟨sl,(hs.2 b (A0K (A10 (A06 e) (I.ok.cab x c hfn hc)))).trans e1⟩
 . obtain⟨o',e1⟩:=I.base.there b o e hx;exact⟨o',(hs.2 b (A0K (A10 (A06 e) (I.ok.cab x c hfn hc)))).trans e1⟩
 . by_cases hj:j=i
   . subst hj;rw[hi] at e1;cases e1;rw[A3C hiσ] at e2
     cases e2;exact⟨u,r,.inr ⟨.inl hk,c,hc,hc'⟩⟩
   rw[A2W (Ne.symm hj)] at e2;obtain⟨u',r',q⟩:=hl j y v' e1 e2 e3;refine⟨u',r',?_⟩;rcases q with q|⟨k,c',e,z'⟩
   . exact .inl q
   refine .inr ⟨k,c',e,z'.sameBut hs ?_⟩;rintro rfl;exact hj (Ri hN e1 (I.ok.inj _ _ _ e hc ▸ hi))
 . by_cases hcc:c'=c
   . subst hcc;exact⟨_,hc'⟩
   obtain⟨w2,z2⟩:=I.cell y c' e;exact⟨w2,z2.sameBut hs hcc⟩
 obtain⟨e,n,ne,nf,d⟩:=I.pin p hp;refine⟨(hs.2 p.1 ?_).trans e,n,ne,nf,d⟩;intro q;rw[q,hoc] at e;have q':oc=p.2:=A0O e;exact d w' (by rw[<- q'];exact hocd)
theorem Mo {M:Model}{A:Around}{E:Value->Shared->Prop}{i:Nat}{x:Str}{v:V}{u:Value}{Q:Unit->Shared->Prop}(I:Inv X pins σ H s)(hN:X.N.Nodup)(hi:X.N[i]? = some x)(hx:Loc X.env.scope x)(r:RelV v u)
  (h:∀ s',Inv X pins (σ.set i (some v)) H s'->Q () s') (hf:X.fn x=true\/X.env.scope.names.lookup x=some .local:=by with_unfolding_all (first | exact .inl rfl | exact .inr rfl | assumption)):wpAny M A (storeName X.env x u) Q E s:=
 Sf I hN hi hx r (λs' I' _=>h s' I') hf
theorem Inv.call' {s':Shared}{ch:List Addr}(I:Inv X pins σ H s)(ho:s'.os=s.os)(u:Un (frs X.stack) ch H H' s.heap s'.heap)(hok:HOk X.prog X.w H' s'.heap)(hg:AllBare s'.gens)
  (hch:∀ b∈ch,(b∈X.ex\/X.s₀.heap.objs.size<=b)/\b≠X.env.locals/\(∀ x c,X.env.cells.lookup x=some c->c≠b)/\∀ p∈X.pn++pins,p.1≠b):Inv X pins σ H' s':=by
 obtain⟨h',g',d',t',o'⟩:=s';have e:o'=s.os:=ho;subst e;exact I.call (g':=g') (t':=t') (d':=d') u hok hg hch
end
abbrev XK:=Value->Option Addr->Hp->Prop
abbrev St:=List (Option V)
abbrev VK:=V->Hp->Prop
abbrev TE:=St->Hp->VK->Prop
abbrev TT:=St->Hp->(Bool->Hp->Prop)->Prop
abbrev TA:=St->Hp->(List V->Hp->Prop)->Prop
structure Ends where
 nx:St->Hp->Prop
 rt:VK
 bk:St->Hp->Prop:=λ_ _=>False
 ct:St->Hp->Prop:=λ_ _=>False
abbrev TS:=Ends->St->Hp->Prop
def EP (X:Cx)(pins:List (Addr×Obj))(σ:St)(Q:VK)(u:Value)(s':Shared):Prop:=∃ v H',Inv X pins σ H' s'/\RelV v u/\Q v H'
def TP (X:Cx)(pins:List (Addr×Obj))(σ:St)(Q:Bool->Hp->Prop)(b:Bool)(s':Shared):Prop:=∃ H',Inv X pins σ H' s'/\Q b H'
def AP (X:Cx)(pins:List (Addr×Obj))(σ:St)(Q:List V->Hp->Prop)(us:List Value)(s':Shared):Prop:=∃ vs H',Inv X pins σ H' s'/\Vals vs us/\Q vs H'
def SP (X:Cx)(pins:List (Addr×Obj))(D:Ends)(f:Flow)(s':Shared):Prop:=
 match f with
 |.next=>∃ σ' H',Inv X pins σ' H' s'/\D.nx σ' H'
 |.brk=>∃ σ' H',Inv X pins σ' H' s'/\D.bk σ' H'
 |.cont=>∃ σ' H',Inv X pins σ' H' s'/\D.ct σ' H'
 |.ret u=>∃ v σ' H',Inv X pins σ' H' s'/\RelV v u/\D.rt v H'
def PE (X:Cx)(e:Expr)(t:TE):Prop:=
 ∀(pins:List (Addr×Obj)) (s:Shared) (σ:St) (H:Hp) (Q:VK),Inv X pins σ H s->t σ H Q->wpAny (model X.prog X.w) X.A (eval e X.env) (EP X pins σ Q) X.xe s
def PT (X:Cx)(e:Expr)(t:TT):Prop:=
 ∀(pins:List (Addr×Obj)) (s:Shared) (σ:St) (H:Hp) (Q:Bool->Hp->Prop),Inv X pins σ H s->t σ H Q->wpAny (model X.prog X.w) X.A (isTrue e X.env (eval e X.env)) (TP X pins σ Q) X.xe s
def PW (X:Cx)(e:Expr)(t:TT):Prop:=
 ∀(whole:Sem Value) (pins:List (Addr×Obj)) (s:Shared) (σ:St) (H:Hp) (Q:Bool->Hp->Prop),Inv X pins σ H s->t σ H Q->wpAny (model X.prog X.w) X.A (isTrue e X.env whole) (TP X pins σ Q) X.xe s
theorem PW.pt {X:Cx}{e:Expr}{t:TT}(h:PW X e t):PT X e t:=h _
def PA (X:Cx)(es:List Expr)(t:TA):Prop:=
 ∀(pos:Pos) (pins:List (Addr×Obj)) (s:Shared) (σ:St) (H:Hp) (Q:List V->Hp->Prop),Inv X pins σ H s->t σ H Q->wpAny (model X.prog X.w) X.A (spliced (backTo pos (starEach es X.env))) (AP X pins σ Q) X.xe s
def PS (X:Cx)(st:Stmt)(t:TS):Prop:=
 ∀(pins:List (Addr×Obj)) (s:Shared) (σ:St) (H:Hp) (D:Ends),Inv X pins σ H s->t D σ H->wpAny (model X.prog X.w) X.A (exec st X.env) (SP X pins D) X.xe s
def PSs (X:Cx)(st:List Stmt)(t:TS):Prop:=
 ∀(pins:List (Addr×Obj)) (s:Shared) (σ:St) (H:Hp) (D:Ends),Inv X pins σ H s->t D σ H->wpAny (model X.prog X.w) X.A (execs st X.env) (SP X pins D) X.xe s
theorem thn {α:Type}{t:Sem α}{Q Q':α->Shared->Prop}{M:Model}{A:Around}{E:Value->Shared->Prop}{s:Shared}(h:wpAny M A t Q E s)(hQ:∀ a s,Q a s->Q' a s):wpAny M A t Q' E s:=A1X h hQ λ_ _ x=>x
section
variable {X:Cx}
def aN1 (i:Nat):TE:=fun σ H Q=>∃ v,σ[i]? = some (some v)/\Q v H
def tC (v:V):TE:=λ_ H Q=>Q v H
theorem aJ2 {i:Nat}{x:Str}{pos:Pos}(hN:X.N[i]? = some x)(hv:Vis X.env.scope x)(hd:(x==("__debug__":Str))=false:=by decide)(hcd:(x==("__classdict__":Str))=false:=by decide):PE X (.Name x pos) (aN1 i):=by
 intro pins s σ H Q I h;obtain⟨v,e,h⟩:=h;obtain⟨m,hn,hl⟩:=I.loc;obtain⟨u,r,l⟩:=hl i x v hN e hv;have fin:EP X pins σ Q u s:=⟨v,H,I,r,h⟩;rcases l with ⟨hk,hm⟩|⟨hk,c,hc,hcell⟩
 . exact wpAny_Name (wpAny_loadName_local I.ok.kind hk hn hm fin) hd
 rcases hk with hk|hk
 . exact wpAny_Name (wpAny_loadName_cell I.ok.kind hk hc hcell fin) hd
 exact wpAny_Name (wpAny_loadName_free I.ok.kind hk hc hcell fin hcd) hd
theorem A6 {i j pos}:PE X (.Constant (.int i) j pos) (tC (.int i)):=λ_ _ _ H _ I h=>wpAny_Constant_int ⟨.int i,H,I.tok _,⟨_,rfl⟩,h⟩
theorem Ku {b j pos}:PE X (.Constant (.bool b) j pos) (tC (.bl b)):=λ_ _ _ H _ I h=>Constant_bool ⟨.bl b,H,I,rfl,h⟩
theorem G4 {j pos}:PE X (.Constant .none j pos) (tC .non):=λ_ _ _ H _ I h=>Constant_none ⟨.non,H,I,rfl,h⟩
theorem Ab {x j pos}:PE X (.Constant (.str x) j pos) (tC (.str x)):=λ_ _ _ H _ I h=>Calls.Constant_str ⟨.str x,H,I.tok _,⟨_,rfl⟩,h⟩
def Gl (X:Cx)(x:Str):Prop:=X.env.kindOf x=some .globalImplicit
theorem Jv {E:Value->Shared->Prop}{pins:List (Addr×Obj)}{s:Shared}{σ:St}{H:Hp}{x:Str}{u:Value}{pos:Pos}{Q:Value->Shared->Prop}(I:Inv X pins σ H s)(hg:Gl X x)(hm:X.mg x=some u)(h:Q u s)
  (hd:(x==("__debug__":Str))=false:=by decide):wpAny (model X.prog X.w) X.A (eval (.Name x pos) X.env) Q E s:=
 A40 I.ok.kind hg (Calls.loadGlobal_global (by rw[I.ok.glob];exact I.mod.glob.keeps I.bk) hm h) hd
theorem J9 {E:Value->Shared->Prop}{pins:List (Addr×Obj)}{s:Shared}{σ:St}{H:Hp}{x:Str}{u:Value}{pos:Pos}{Q:Value->Shared->Prop}(I:Inv X pins σ H s)(hg:Gl X x)(hm:X.mg x=none)(hv:bootBuiltins x=some u)(h:Q u s)
  (hn:x ≠ "__name__":=by decide) (hd:(x==("__debug__":Str))=false:=by decide):wpAny (model X.prog X.w) X.A (eval (.Name x pos) X.env) Q E s:=by
 obtain⟨mb,h1,h2⟩:=I.mod.blt;exact A40 I.ok.kind hg (Calls.loadGlobal_builtin (by rw[I.ok.glob];exact I.mod.glob.keeps I.bk) hm (by rw[I.ok.blt];exact h1.keeps I.bk) ((h2 x hn).trans hv) h) hd
theorem aq8 {x:Str}{v:V}{u:Value}{pos:Pos}(hg:Gl X x)(hm:X.mg x=some u)(r:RelV v u)(hd:(x==("__debug__":Str))=false:=by decide):PE X (.Name x pos) (tC v):=
 λ_ _ _ H _ I h=>Jv I hg hm ⟨v,H,I,r,h⟩ hd
theorem Hm {x:Str}{v:V}{u:Value}{pos:Pos}(hg:Gl X x)(hm:X.mg x=none)(hv:bootBuiltins x=some u)(r:RelV v u)(hn:x ≠ "__name__":=by decide)(hd:(x==("__debug__":Str))=false:=by decide):PE X (.Name x pos) (tC v):=
 λ_ _ _ H _ I h=>J9 I hg hm hv ⟨v,H,I,r,h⟩ hn hd
variable {a b:Expr}{ta tb:TE}{pos:Pos}
def tB (t:TE):TT:=fun σ H Q=>t σ H λx H1=>∃ c,x = .bl c/\Q c H1
theorem Di {e:Expr}{t:TE}(h:PE X e t)(he:∀ whole,isTrue e X.env whole=(do let v <- whole;standAt e.pos;holding [v] (truthy v)):=by intro _;ac_nf):PT X e (tB t):=by
 intro pins s σ H Q I hw;refine isTrue_plain (thn (h pins s σ H _ I hw) λv s1 ⟨x,H1,I1,r1,q1⟩=>?_) (he _);obtain⟨d,rfl,q⟩:=q1
 cases r1;exact A3F ⟨H1,I1,q⟩
variable {tA tB':TT}{rest:List Expr}
def aQ8 (t u:TT):TT:=fun σ H Q=>t σ H λc H1=>if c=true then u σ H1 Q else Q false H1
def tOr (t u:TT):TT:=fun σ H Q=>t σ H λc H1=>if c=true then Q true H1 else u σ H1 Q
def aS2 (t:TT):TT:=fun σ H Q=>t σ H λc H1=>Q (!c) H1
theorem R0 (ha:PT X a tA):PW X (.BoolOp .And [a] pos) tA:=by
 intro wh pins s σ H Q I h;refine isTrue_and (thn (ha pins s σ H Q I h) λc s1 e=>?_)
 cases c with
 |true=>exact isTrue_and_nil e
 |false=>exact e
theorem Sm (ha:PT X a tA):PW X (.BoolOp .Or [a] pos) tA:=by
 intro wh pins s σ H Q I h;refine isTrue_or (thn (ha pins s σ H Q I h) λc s1 e=>?_)
 cases c with
 |false=>exact isTrue_or_nil e
 |true=>exact e
theorem Ph (ha:PT X a tA)(hb:PW X (.BoolOp .And (b :: rest) pos) tB'):PW X (.BoolOp .And (a :: b :: rest) pos) (aQ8 tA tB'):=by
 intro wh pins s σ H Q I h;refine isTrue_and (thn (ha pins s σ H _ I h) λc s1 ⟨H1,I1,q1⟩=>?_)
 cases c with
 |true=>exact hb wh pins s1 σ H1 Q I1 q1
 |false=>exact⟨H1,I1,q1⟩
theorem a51 (ha:PT X a tA)(hb:PW X (.BoolOp .Or (b :: rest) pos) tB'):PW X (.BoolOp .Or (a :: b :: rest) pos) (tOr tA tB'):=by
 intro wh pins s σ H Q I h;refine isTrue_or (thn (ha pins s σ H _ I h) λc s1 ⟨H1,I1,q1⟩=>?_)
 cases c with
 |true=>exact⟨H1,I1,q1⟩
 |false=>exact hb wh pins s1 σ H1 Q I1 q1
theorem Hf (ha:PT X a tA):PT X (.UnaryOp .Not a pos) (aS2 tA):=by intro pins s σ H Q I h;exact isTrue_not (ha pins s σ H (λc H1=>Q (!c) H1) I h)
def aF8 (ta tb:TE):TE:=fun σ H Q=>ta σ H λx H1=>∃ c,x = .bl c/\if c=true then tb σ H1 Q else Q (.bl false) H1
theorem Vw {op}{t:TE}(h:PE X a t):PE X (.BoolOp op [a] pos) t:=λpins s σ H Q I hw=>BoolOp_one (h pins s σ H Q I hw)
theorem W8 (ha:PE X a ta)(hb:PE X (.BoolOp .And (b :: rest) pos) tb):PE X (.BoolOp .And (a :: b :: rest) pos) (aF8 ta tb):=by
 intro pins s σ H Q I h;refine BoolOp_and (thn (ha pins s σ H _ I h) λv s1 ⟨x,H1,I1,r1,q1⟩=>?_);obtain⟨c,rfl,q1⟩:=q1
 cases r1;refine A3F ?_
 cases c with
 |true=>exact hb pins s1 σ H1 Q I1 q1
 |false=>exact⟨.bl false,H1,I1,rfl,q1⟩
def tIf (t:TT)(ta tb:TE):TE:=fun σ H Q=>t σ H λc H1=>if c=true then ta σ H1 Q else tb σ H1 Q
theorem Fh {c:Expr}(hc:PT X c tA)(ha:PE X a ta)(hb:PE X b tb):PE X (.IfExp c a b pos) (tIf tA ta tb):=by
 intro pins s σ H Q I h;refine wpAny_IfExp (thn (hc pins s σ H _ I h) λd s1 ⟨H1,I1,q1⟩=>?_)
 cases d with
 |true=>exact ha pins s1 σ H1 Q I1 q1
 |false=>exact hb pins s1 σ H1 Q I1 q1
end
def SqL (K:W.Frag)(H:Hp)(a:Addr)(xs:List V):Prop:=
 Rd H a (.lst xs) \/
  ∃(o:Obj) (its:Array Value) (n:Nat),K.lookup a=some o/\o.cls = .type "list" /\ o.dict=none/\o.data = .seq its n/\its.size<=sizeLine/\Vals xs its.toList
def SqT (K:W.Frag)(H:Hp)(a:Addr)(xs:List V):Prop:=
 Rd H a (.tup xs) \/
  ∃(o:Obj) (its:Array Value) (n:Nat),K.lookup a=some o/\o.cls = .type "tuple" /\ o.data = .seq its n/\its.size<=sizeLine/\Vals xs its.toList/\o.dict=none
def absV:Value->Option V
 |.none=>some .non
 |.bool b=>some (.bl b)
 |.int i _=>some (.int i)
 |.str x _=>some (.str x)
 |.bytes b _=>some (.byt b)
 |.float b _=>some (.flt b)
 |.ref a=>some (.ref a)
 |.type n=>some (.ty n)
 |_=>none
theorem RelV.abs {x:V}{u:Value}(r:RelV x u):absV u=some x:=by
 cases x with
 |non=>cases r;rfl
 |bl _=>cases r;rfl
 |int _=>obtain⟨t,rfl⟩:=r;rfl
 |str _=>obtain⟨t,rfl⟩:=r;rfl
 |byt _=>obtain⟨t,rfl⟩:=r;rfl
 |flt _=>obtain⟨t,rfl⟩:=r;rfl
 |ref _=>cases r;rfl
 |ty _=>cases r;rfl
theorem RelV.inj {x y:V}{u:Value}(r:RelV x u)(q:RelV y u):x=y:=A0O (r.abs.symm.trans q.abs)
theorem Vals.inj:∀ {xs ys:List V} {us:List Value},Vals xs us->Vals ys us->xs=ys
 |_,_,_,.nil,.nil=>rfl
 |_,_,_,.cons r t,.cons r' t'=>by rw[r.inj r',Vals.inj t t']
section
variable {X:Cx}{pins:List (Addr×Obj)}{σ:St}{H:Hp}{s:Shared}{a:Addr}{xs ys:List V}
theorem SqL.of {K:W.Frag}(h:H a=some (.lst xs)):SqL K H a xs:=.inl (.inl h)
theorem SqT.of {K:W.Frag}(h:H a=some (.tup xs)):SqT K H a xs:=.inl (.inl h)
theorem Inv.list (I:Inv X pins σ H s)(h:SqL X.K H a xs):∃ its:List Value,Vals xs its/\PlainL s.heap a its.toArray/\xs.length<=sizeLine:=by
 rcases h with h|⟨o,its,n,hk,hc,hd,hs,hz,r⟩
 . obtain⟨z,its,n,r,e⟩:=h.ok I.hok;exact⟨its,r,⟨_,n,e,rfl,rfl,rfl⟩,z⟩
 refine⟨its.toList,r,⟨o,n,I.kIn a o hk,hc,hd,by simpa using hs⟩,?_⟩;have e:=r.length;simp only[Array.length_toList] at e;omega
theorem Inv.tuple (I:Inv X pins σ H s)(h:SqT X.K H a xs):∃ its:List Value,Vals xs its/\IsTup s.heap a its.toArray/\xs.length<=sizeLine:=by
 rcases h with h|⟨o,its,n,hk,hc,hs,hz,r,hn⟩
 . obtain⟨z,its,r,p⟩:=h.ok I.hok;exact⟨its,r,p.tup,z⟩
 refine⟨its.toList,r,⟨o,I.kIn a o hk,hc,n,by simpa using hs⟩,?_⟩;have e:=r.length;simp only[Array.length_toList] at e;omega
theorem Inv.list_inj (I:Inv X pins σ H s)(h:SqL X.K H a xs)(h':SqL X.K H a ys):xs=ys:=by
 obtain⟨its,r,⟨o,n,e,_,_,d⟩,_⟩:=I.list h;obtain⟨its',r',⟨o',n',e',_,_,d'⟩,_⟩:=I.list h';rw[e] at e';cases e';rw[d] at d';injection d' with d1 _;have:its=its':=by simpa using congrArg Array.toList d1
 subst this;exact r.inj r'
theorem Inv.tuple_inj (I:Inv X pins σ H s)(h:SqT X.K H a xs)(h':SqT X.K H a ys):xs=ys:=by
 obtain⟨its,r,⟨o,e,_,n,d⟩,_⟩:=I.tuple h;obtain⟨its',r',⟨o',e',_,n',d'⟩,_⟩:=I.tuple h';rw[e] at e';cases e';rw[d] at d';injection d' with d1 _;have:its=its':=by simpa using congrArg Array.toList d1
 subst this;exact r.inj r'
end
abbrev Cx.wish (X:Cx)(E:Value->Shared->Prop):Cx:={X with xe:=E}
abbrev Cx.nox (X:Cx):Cx:=X.wish λ_ _=>False
theorem Cx.Ok.wish {X:Cx}(ok:X.Ok)(E:Value->Shared->Prop):(X.wish E).Ok:=
 ⟨ok.mod,ok.kind,ok.glob,ok.blt,ok.above,ok.inj,ok.has,ok.cab,ok.hd,ok.frames,ok.stk,ok.exf,ok.bs,ok.bsz,ok.noex,ok.exfs,ok.funs,ok.frf⟩
theorem Cx.Ok.unwish {X:Cx}{E:Value->Shared->Prop}(ok:(X.wish E).Ok):X.Ok:=
 ⟨ok.mod,ok.kind,ok.glob,ok.blt,ok.above,ok.inj,ok.has,ok.cab,ok.hd,ok.frames,ok.stk,ok.exf,ok.bs,ok.bsz,ok.noex,ok.exfs,ok.funs,ok.frf⟩
section
variable {X:Cx}{pins:List (Addr×Obj)}{σ:St}{H:Hp}{s:Shared}{E:Value->Shared->Prop}
theorem Inv.wish (I:Inv X pins σ H s)(E:Value->Shared->Prop):Inv (X.wish E) pins σ H s:=⟨I.ok.wish E,I.os,I.bare,I.base,I.loc,I.cell,I.free,I.freeC,I.pin,I.hok,I.len⟩
theorem Inv.unwish (I:Inv (X.wish E) pins σ H s):Inv X pins σ H s:=⟨I.ok.unwish,I.os,I.bare,I.base,I.loc,I.cell,I.free,I.freeC,I.pin,I.hok,I.len⟩
theorem SP.unwish {D:Ends}{f:Flow}{s':Shared}(h:SP (X.wish E) pins D f s'):SP X pins D f s':=by
 cases f with
 |next=>obtain⟨σ',H',I,q⟩:=h;exact⟨σ',H',I.unwish,q⟩
 |brk=>obtain⟨σ',H',I,q⟩:=h;exact⟨σ',H',I.unwish,q⟩
 |cont=>obtain⟨σ',H',I,q⟩:=h;exact⟨σ',H',I.unwish,q⟩
 |ret u=>obtain⟨v,σ',H',I,r,q⟩:=h;exact⟨v,σ',H',I.unwish,r,q⟩
theorem PSs.nox {st:List Stmt}{t:TS}(h:PSs X.nox st t):PSs X st t:=λpins s σ H D I hw=>A1X (h pins s σ H D (I.wish _) hw) (λ_ _ q=>q.unwish) λ_ _ z=>False.elim z
end
section
variable {X:Cx}{st:Stmt}{rest:List Stmt}{t u:TS}{e:Expr}{te:TE}{pos:Pos}
def aE1:TS:=λD σ H=>D.nx σ H
def aL4 (t u:TS):TS:=λD σ H=>t {D with nx:=u D} σ H
theorem Ax:PSs X [] aE1:=λ_ _ σ H _ I h=>A4L ⟨σ,H,I,h⟩
theorem A3 (h1:PS X st t) (h2:PSs X rest u):PSs X (st :: rest) (aL4 t u):=by
 intro pins s σ H D I h;refine wpAny_execs_cons (thn (h1 pins s σ H {D with nx:=u D} I h) λf s1 q=>?_)
 cases f with
 |next=>obtain⟨σ',H',I',q⟩:=q;exact h2 pins s1 σ' H' D I' q
 |ret v=>exact q
 |brk=>exact q
 |cont=>exact q
theorem A5 (h1:PS X st t):PSs X [st] t:=by
 intro pins s σ H D I h;refine wpAny_execs_cons (thn (h1 pins s σ H D I h) λf s1 q=>?_)
 cases f with
 |next=>exact A4L q
 |ret v=>exact q
 |brk=>exact q
 |cont=>exact q
theorem Inv.quiet {pins:List (Addr×Obj)}{σ:St}{H:Hp}{s:Shared}(I:Inv X pins σ H s):interactive X.env=false:=by simp[interactive,I.ok.kind]
def aJ0 (te:TE):TS:=λD σ H=>te σ H λ_ H1=>D.nx σ H1
theorem Bs (he:PE X e te)(hs:swapsWith e none pos.line X.env=pure false:=by ac_nf):PS X (.Expr e pos) (aJ0 te):=by intro pins s σ H D I h;exact wpAny_Expr_any (thn (he pins s σ H _ I h) λv s1 ⟨x,H1,I1,r1,q1⟩=>⟨σ,H1,I1,q1⟩) I.quiet hs
def aS9 (te:TE):TS:=λD σ H=>te σ H D.rt
theorem At (he:PE X e te):PS X (.Return (some e) pos) (aS9 te):=by intro pins s σ H D I h;exact wpAny_Return_some (thn (he pins s σ H _ I h) λv s1 ⟨x,H1,I1,r1,q1⟩=>⟨x,σ,H1,I1,r1,q1⟩)
def aS3 (c:TT)(t u:TS):TS:=λD σ H=>c σ H λb H1=>if b=true then t D σ H1 else u D σ H1
theorem Cq {c:Expr}{a b:List Stmt}{tc:TT}(hc:PT X c tc)(ha:PSs X a t)(hb:PSs X b u):PS X (.If c a b pos) (aS3 tc t u):=by
 intro pins s σ H D I h;refine wpAny_If (thn (hc pins s σ H _ I h) λd s1 ⟨H1,I1,q1⟩=>?_)
 cases d with
 |true=>exact ha pins s1 σ H1 D I1 q1
 |false=>exact hb pins s1 σ H1 D I1 q1
def aH4:TS:=λ_ _ _=>False
theorem ac2:PS X st aH4:=λ_ _ _ _ _ _ h=>h.elim
end
abbrev TG:=V->St->Hp->(St->Hp->Prop)->Prop
abbrev TGs:=List V->St->Hp->(St->Hp->Prop)->Prop
def PG (X:Cx)(target:Expr)(t:TG):Prop:=
 ∀(pins:List (Addr×Obj)) (s:Shared) (σ:St) (H:Hp) (v:V) (u:Value) (Q:St->Hp->Prop),Inv X pins σ H s->RelV v u->t v σ H Q ->
  wpAny (model X.prog X.w) X.A (assign target X.env u) (λ_ s'=>∃ σ' H',Inv X pins σ' H' s'/\Q σ' H') X.xe s
def PGs (X:Cx)(ts:List Expr)(t:TGs):Prop:=
 ∀(pins:List (Addr×Obj)) (s:Shared) (σ:St) (H:Hp) (vs:List V) (us:List Value) (Q:St->Hp->Prop),Inv X pins σ H s->Vals vs us->t vs σ H Q ->
  wpAny (model X.prog X.w) X.A (assignInOrder ((assignEach ts X.env).map (·.2)) us) (λ_ s'=>∃ σ' H',Inv X pins σ' H' s'/\Q σ' H') X.xe s
section
variable {X:Cx}{pos:Pos}
def M9 (i:Nat):TG:=λv σ H Q=>Q (σ.set i (some v)) H
theorem Al {i:Nat}{x:Str}(hN:X.N.Nodup)(hi:X.N[i]? = some x)(hx:Loc X.env.scope x)(hf:X.fn x=true\/X.env.scope.names.lookup x=some .local:=by with_unfolding_all (first | exact .inl rfl | exact .inr rfl | assumption)):PG X (.Name x pos) (M9 i):=by intro pins s σ H v u Q I r h;exact wpAny_assign_Name (Mo I hN hi hx r (λs' I'=>⟨_,H,I',h⟩) hf)
def aL6:TGs:=λvs σ H Q=>vs=[]/\Q σ H
def Uw (t:TG)(u:TGs):TGs:=λvs σ H Q=>∃ v r,vs=v :: r/\t v σ H fun σ' H'=>u r σ' H' Q
theorem a58:PGs X [] aL6:=by
 intro pins s σ H vs us Q I r h;obtain⟨e,h⟩:=h;subst e
 cases r;exact assignInOrder_nil ⟨σ,H,I,h⟩
theorem Mn {e:Expr}{es:List Expr}{t:TG}{u:TGs}(h1:PG X e t)(h2:PGs X es u)
  (hs:(assignEach (e :: es) X.env).map (·.2)=assign e X.env :: (assignEach es X.env).map (·.2):=by ac_nf):PGs X (e :: es) (Uw t u):=by
 intro pins s σ H vs us Q I r h;obtain⟨v,vr,e1,h⟩:=h;subst e1
 cases r with
 |cons r rr=>rw[hs];refine assignInOrder_cons (thn (h1 pins s σ H _ _ _ I r h) λ_ s1 ⟨σ1,H1,I1,q1⟩=>?_);exact h2 pins s1 σ1 H1 _ _ Q I1 rr q1
def aG0 (K:W.Frag)(n:Nat)(t:TGs):TG:=λv σ H Q=>∃ a xs,v = .ref a/\SqT K H a xs/\xs.length=n/\t xs σ H Q
theorem az6 {es:List Expr}{k:Nat}{t:TGs}{n:Nat}(hc:X.calm=true)(h:PGs X es t)
  (hn:(assignEach es X.env).length=n:=by ac_nf) (hst:(assignEach es X.env).findIdx? (·.1)=none:=by ac_nf):PG X (.Tuple es k pos) (aG0 X.K n t):=by
 intro pins s σ H v u Q I r hw;obtain⟨a,xs,e1,hq,hl,hw⟩:=hw;subst e1
 cases r;obtain⟨its,rv,ht,hz⟩:=I.tuple hq;refine assign_Tuple_tuple (I.ok.hd hc) ht (by simp[hn,<- hl,rv.length]) hst λh' hx=>?_;have I1:Inv X pins σ H {s with heap:=h'}:=I.kept (t':=s.toks) λb o e=>hx b o (A0K (A06 e)) e
 exact h pins _ σ H xs _ Q I1 (by simpa using rv) hw
def aI0 (te:TE)(g:TG):TS:=λD σ H=>te σ H λx H1=>g x σ H1 D.nx
theorem Ad {i:Nat}{x:Str}{e:Expr}{te:TE}{pos':Pos}(hN:X.N.Nodup)(hi:X.N[i]? = some x)(hx:Loc X.env.scope x)(he:PE X e te)(hs:swapsWith e (some (.Name x pos')) pos.line X.env=pure false:=by ac_nf)(hf:X.fn x=true\/X.env.scope.names.lookup x=some .local:=by with_unfolding_all (first | exact .inl rfl | exact .inr rfl | assumption)) :
  PS X (.Assign [.Name x pos'] e pos) (aI0 te (M9 i)):=by
 intro pins s σ H D I h;refine wpAny_Assign_Name (thn (he pins s σ H _ I h) λv s1 ⟨y,H1,I1,r1,q1⟩=>?_) hs;exact Mo I1 hN hi hx r1 (λs2 I2=>⟨_,H1,I2,q1⟩) hf
def ah1 (c:TT)(tb:TS):TS:=λD σ H=>∃ W:Nat->St->Hp->Prop,(∃ m,W m σ H)/\∀ m σ H,W m σ H ->
 c σ H λb H1=>if b=true then ∃ N:St->Hp->Prop,(∀ σ' H',N σ' H'->∃ m',m'<m/\W m' σ' H')/\tb {D with nx:=N,ct:=N,bk:=D.nx} σ H1 else D.nx σ H1
theorem ab5 {c:Expr}{body:List Stmt}{tc:TT}{tb:TS}(hp:PassesOwn (model X.prog X.w) X.A X.env X.xe)(hc:PT X c tc)(hb:PSs X body tb):PS X (.While c body [] pos) (ah1 tc tb):=by
 intro pins s σ H D I h;obtain⟨W,⟨m0,w0⟩,turn⟩:=h;refine wpAny_While (codeAny_whileLoop (λn s'=>∃ σ' H',Inv X pins σ' H' s'/\W n σ' H') ?_ m0 ⟨σ,H,I,w0⟩);rintro n s1 ⟨σ1,H1,I1,w1⟩;refine A2S hp (thn (hc pins s1 σ1 H1 _ I1 (turn n σ1 H1 w1)) λb s2 ⟨H2,I2,q2⟩=>?_)
 cases b with
 |true=>
   obtain ⟨N,hN,q2⟩:=q2;rw[A0R rfl];refine A2S hp (thn (hb pins s2 σ1 H2 _ I2 q2) λf s3 q3=>?_)
   cases f with
   |next=>obtain⟨σ3,H3,I3,n3⟩:=q3;obtain⟨m',hm,w3⟩:=hN σ3 H3 n3;exact⟨m',hm,σ3,H3,I3,w3⟩
   |cont=>obtain⟨σ3,H3,I3,n3⟩:=q3;obtain⟨m',hm,w3⟩:=hN σ3 H3 n3;exact⟨m',hm,σ3,H3,I3,w3⟩
   |brk=>exact q3
   |ret v=>exact q3
 |false=>rw[A0J A0F];exact A4L ⟨σ1,H2,I2,q2⟩
end
structure It where
 go:Nat->Hp->Prop
 yld:Nat->Hp->V->Hp->Prop
 stop:Nat->Hp->Prop
def Vm (X:Cx)(pins:List (Addr×Obj))(H:Hp)(b:Addr):Prop:=
 H b=none/\b≠X.env.locals/\b∉X.fs/\(b∈X.ex\/X.s₀.heap.objs.size<=b)/\(∀ x c,X.env.cells.lookup x=some c->c≠b)/\∀ p∈X.pn++pins,p.1≠b
theorem Inv.fpOk {X:Cx}{pins:List (Addr×Obj)}{σ:St}{H H':Hp}{s:Shared}{b:Addr}(I:Inv X pins σ H s)(hb:s.heap.objs.size<=b)(hn:H' b=none):Vm X pins H' b:=by
 refine⟨hn,A3K (A10 I.lt hb),I.nofs hb,.inr (A0L I.sz hb),λx c e z=>?_,λp hp z=>?_⟩
 . obtain⟨v,q⟩:=I.cell x c e;exact absurd (A10 q.lt (by rw[z];exact hb)) (A1P _)
 exact absurd (A10 (A06 (I.pin p hp).1) (by rw[z];exact hb)) (A1P _)
structure a85 (P:Program)(w:World)(K:W.Frag)(tg:Expr)(J:It)(fp:List Addr)(it:Addr)(tn:Nat->Heap->Prop):Prop where
 mem:it∈fp
 obj:∀ i h,tn i h->∀ b∈fp,∃ o,h.get? b=some o/\∀ v,o.data ≠ .cell v
 keep:∀ i h h',tn i h->(∀ b∈fp,∀ o,h.get? b=some o->h'.get? b=some o)->tn i h'
 item:∀(X:Cx),X.prog=P->X.w=w->X.K=K->X.calm=true->∀(i:Nat) (pins:List (Addr×Obj)) (s:Shared) (σ:St) (H:Hp) (E:Value->Shared->Prop),Inv X pins σ H s->(∀ b∈fp,Vm X pins H b)->tn i s.heap->J.go i H ->
  wpAny (model P w) X.A (pyNext (.ref it)) (λr s1=>∃ u,r=some u /\
   wpAny (model P w) X.A (letOwnedTupleGo tg (.ref it) u) (λ_ s2=>∃ x H',Inv X pins σ H' s2/\RelV x u/\J.yld i H x H'/\tn (i+1) s2.heap/\∀ b∈fp,H' b=none) E s1) E s
 done:∀(X:Cx),X.prog=P->X.w=w->X.K=K->X.calm=true->∀(i:Nat) (pins:List (Addr×Obj)) (s:Shared) (σ:St) (H:Hp) (E:Value->Shared->Prop),Inv X pins σ H s->(∀ b∈fp,Vm X pins H b)->tn i s.heap->J.stop i H ->
  wpAny (model P w) X.A (pyNext (.ref it)) (λr s1=>r=none/\Inv X pins σ H s1) E s
 self:∀(A:Around) (i:Nat) (s:Shared) (Q:Value->Shared->Prop) (E:Value->Shared->Prop),tn i s.heap->Q (.ref it) s->wpAny (model P w) A (pyIter (.ref it)) Q E s
abbrev TI:=St->Hp->(It->Hp->Prop)->Prop
def PIE (X:Cx)(pins:List (Addr×Obj))(σ:St)(tg:Expr)(R:It->Hp->Prop)(itv:Value)(s2:Shared):Prop:=
 ∃(it:Addr) (fp:List Addr) (tn:Nat->Heap->Prop) (J:It) (H':Hp),itv = .ref it/\Inv X pins σ H' s2/\a85 X.prog X.w X.K tg J fp it tn/\tn 0 s2.heap/\(∀ b∈fp,Vm X pins H' b)/\R J H'
def PI (X:Cx)(tg iter:Expr)(wi:TI):Prop:=
 ∀(pins:List (Addr×Obj)) (s:Shared) (σ:St) (H:Hp) (R:It->Hp->Prop),Inv X pins σ H s->wi σ H R ->
  wpAny (model X.prog X.w) X.A (eval iter X.env) (λv s1=>wpAny (model X.prog X.w) X.A (pyIter v) (PIE X pins σ tg R) X.xe s1) X.xe s
theorem Xa {M:Model}{A:Around}{E:Value->Shared->Prop}{s:Shared}{tg:Expr}{it:Addr}{u:Value}{o:Obj}{n:String}{vs:Array Value}{Q:Unit->Shared->Prop}(ho:s.heap.get? it=some o)(hc:o.cls = .type n)(hd:o.data = .fields vs)
  (hn:["enumerate","zip","dict_itemiterator","dict_reverseitemiterator","odict_iterator","itertools.zip_longest","itertools.pairwise"].contains n=false) (hQ:Q () s):wpAny M A (letOwnedTupleGo tg (.ref it) u) Q E s:=by
 unfold letOwnedTupleGo
 cases tg<;>first
  |exact A09 hQ
  | (cases u<;>first
    |exact A09 hQ
    | (refine A03 (wpAny_load ho ?_)
       rw[hc,hd];show wpAny M A (if(["enumerate","zip","dict_itemiterator","dict_reverseitemiterator","odict_iterator","itertools.zip_longest","itertools.pairwise"].contains n&&vs[0]? == some (rawInt _))=true then _ else _) Q E s
       rw[A0J (by intro h;rw[hn,Bool.false_and] at h;cases h)];exact A09 hQ))
def Itl (K:W.Frag)(a:Addr):It:=
 ⟨λi H=>∃ xs x,SqL K H a xs/\xs[i]? = some x,λi H x H'=>H'=H/\∀ xs,SqL K H a xs->xs[i]? = some x,λi H=>∃ xs,SqL K H a xs/\xs.length<=i⟩
def Itt (K:W.Frag)(a:Addr):It:=
 ⟨λi H=>∃ xs x,SqT K H a xs/\xs[i]? = some x,λi H x H'=>H'=H/\∀ xs,SqT K H a xs->xs[i]? = some x,λi H=>∃ xs,SqT K H a xs/\xs.length<=i⟩
def Itr (lo:Int)(n:Nat):It:=⟨λi _=>i<n,λi H x H'=>H'=H/\x = .int (lo+i),λi _=>n<=i⟩
theorem Y6 {P:Program}{w:World}{K:W.Frag}{tg:Expr}(a it:Addr):a85 P w K tg (Itl K a) [it] it (λi h=>h.IsListIter it a i) where
 mem:=by simp
 obj:=λi h st b hb=>by
  have e:b=it:=by simpa using hb
  subst e;obtain⟨o,e,c,d⟩:=st;exact⟨o,e,λv z=>by rw[d] at z;cases z⟩
 keep:=λi h h' st k=>st.at λo e=>k it (by simp) o e
 item:=by
  intro X hP hw hK hc i pins s σ H E I hf st hg;subst hP hw hK;obtain⟨xs,x,hq,hx⟩:=hg;obtain⟨its,rv,p,hz⟩:=I.list hq;obtain⟨u,hu,ru⟩:=rv.get hx;obtain⟨f0,f1,f2,f3,f4,f5⟩:=hf it (by simp);refine wpAny_pyNext_list_item st p.isList (x:=u) (by simpa using hu) λh' st' sb=>?_;have I1:Inv X pins σ H {s with heap:=h'}:=I.turned (t':=s.toks) (λb o hb e=>(sb.2 b hb).trans e) f0 f1 f3 f4 f5
  obtain⟨o,e,c,d⟩:=id st';exact⟨u,rfl,Xa (s:={s with heap:=h'}) e c d ∅ ⟨x,H,I1,ru,⟨rfl,λys hy=>by rw[I.list_inj hy hq];exact hx⟩,st',λb hb=>(hf b hb).1⟩⟩
 done:=by intro X hP hw hK hc i pins s σ H E I hf st hg;subst hP hw hK;obtain⟨xs,hq,hx⟩:=hg;obtain⟨its,rv,p,hz⟩:=I.list hq;obtain⟨f0,f1,f2,f3,f4,f5⟩:=hf it (by simp);have hl:=rv.length;exact wpAny_pyNext_list_end (I.ok.hd hc) st p.isList (by simp;omega) λh' eb=>⟨rfl,I.turned (t':=s.toks) (λb o hb e=>eb b o hb e) f0 f1 f3 f4 f5⟩
 self:=λ_ _ _ _ _ st h=>wpAny_pyIter_listiter st h
theorem Wx {P:Program}{w:World}{K:W.Frag}{tg:Expr}(a it:Addr):a85 P w K tg (Itt K a) [it] it (λi h=>h.IsTupleIter it a i) where
 mem:=by simp
 obj:=λi h st b hb=>by
  have e:b=it:=by simpa using hb
  subst e;obtain⟨o,e,c,d⟩:=st;exact⟨o,e,λv z=>by rw[d] at z;cases z⟩
 keep:=λi h h' st k=>st.at λo e=>k it (by simp) o e
 item:=by
  intro X hP hw hK hc i pins s σ H E I hf st hg;subst hP hw hK;obtain⟨xs,x,hq,hx⟩:=hg;obtain⟨its,rv,p,hz⟩:=I.tuple hq;obtain⟨u,hu,ru⟩:=rv.get hx;obtain⟨f0,f1,f2,f3,f4,f5⟩:=hf it (by simp);refine wpAny_pyNext_tuple_item st (show s.heap.IsTuple a its.toArray from p) (x:=u) (by simpa using hu) λh' st' sb=>?_;have I1:Inv X pins σ H {s with heap:=h'}:=I.turned (t':=s.toks) (λb o hb e=>(sb.2 b hb).trans e) f0 f1 f3 f4 f5
  obtain⟨o,e,c,d⟩:=id st';exact⟨u,rfl,Xa (s:={s with heap:=h'}) e c d ∅ ⟨x,H,I1,ru,⟨rfl,λys hy=>by rw[I.tuple_inj hy hq];exact hx⟩,st',λb hb=>(hf b hb).1⟩⟩
 done:=by intro X hP hw hK hc i pins s σ H E I hf st hg;subst hP hw hK;obtain⟨xs,hq,hx⟩:=hg;obtain⟨its,rv,p,hz⟩:=I.tuple hq;obtain⟨f0,f1,f2,f3,f4,f5⟩:=hf it (by simp);have hl:=rv.length;exact wpAny_pyNext_tuple_end (I.ok.hd hc) st (show s.heap.IsTuple a its.toArray from p) (by simp;omega) λh' eb=>⟨rfl,I.turned (t':=s.toks) (λb o hb e=>eb b o hb e) f0 f1 f3 f4 f5⟩
 self:=λ_ _ _ _ _ st h=>wpAny_pyIter_tupleiter st h
theorem Xh {P:Program}{w:World}{K:PySem.W.Frag}{tg:Expr}(it:Addr)(lo:Int)(n:Nat):a85 P w K tg (Itr lo n) [it] it (λi h=>IsRangeIter h it (lo+(i:Nat)*1) ((n:Int)-(i:Nat)) 1) where
 mem:=by simp
 obj:=λi h st b hb=>by
  have e:b=it:=by simpa using hb
  subst e
  exact⟨_,st,λv z=>by
   have z':Data.fields _=Data.cell v:=z
   cases z'⟩
 keep:=λi h h' st k=>k it (by simp) _ st
 item:=by
  intro X hP hw hK hc i pins s σ H E I hf st hg;subst hP hw hK;obtain⟨f0,f1,f2,f3,f4,f5⟩:=hf it (by simp);have W:=Walks.range (prog:=X.prog) (w:=X.w) (I.ok.hd hc) it lo 1 n;refine W.item i s _ _ hg st λv h' tk hv st' kk=>?_;obtain⟨t,rfl⟩:=hv;have I1:Inv X pins σ H {s with heap:=h',toks:=tk}:=I.turned (λb o hb e=>kk b o (by simpa using hb) e) f0 f1 f3 f4 f5
  refine⟨_,rfl,Xa (s:={s with heap:=h',toks:=tk}) (n:="range_iterator") st' rfl rfl ∅ ⟨.int (lo+i),H,I1,⟨t,?_⟩,⟨rfl,rfl⟩,st',λb hb=>(hf b hb).1⟩⟩
  rw[Int.mul_one]
 done:=by intro X hP hw hK hc i pins s σ H E I hf st hg;subst hP hw hK;obtain⟨f0,f1,f2,f3,f4,f5⟩:=hf it (by simp);exact wpAny_pyNext_range_end (I.ok.hd hc) st (by have:n<=i:=hg;omega) λh' eb=>⟨rfl,I.turned (t':=s.toks) (λb o hb e=>eb b o hb e) f0 f1 f3 f4 f5⟩
 self:=λ_ _ _ _ _ st h=>wpAny_pyIter_rangeiter st h
section
variable {X:Cx}{tg:Expr}
theorem Vl {pins:List (Addr×Obj)}{σ:St}{H:Hp}{s:Shared}{R:It->Hp->Prop}{E:Value->Shared->Prop}{lo hi:Int}{t u v:Tok}{tk:Nat}(I:Inv X pins σ H s)(h1:-(2 ^ 62)<=lo)(h2:lo<2 ^ 62)(h3:-(2 ^ 62)<=hi)(h4:hi<2 ^ 62)
  (q:R (Itr lo (hi-lo).toNat) H):wpAny (model X.prog X.w) X.A (pyIter (.ref s.heap.objs.size)) (PIE X pins σ tg R) E {s with heap:=s.heap.push {cls:=.type "range",data:=.fields #[.int lo t,.int hi u,.int 1 v]},toks:=tk}:=by
 refine wpAny_pyIter_range (IsRange.new ..) (small_one h1 h2 h3 h4) ?_;have I1:Inv X pins σ H {s with heap:=s.heap.push {cls:=.type "range",data:=.fields #[.int lo t,.int hi u,.int 1 v]},toks:=tk}:=I.kept λb o e=>A01 _ e
 refine⟨(s.heap.push {cls:=.type "range",data:=.fields #[.int lo t,.int hi u,.int 1 v]}).objs.size,[(s.heap.push {cls:=.type "range",data:=.fields #[.int lo t,.int hi u,.int 1 v]}).objs.size],_,_,H,rfl,
  I1.kept (t':=tk) λb o e=>A01 _ e,Xh _ lo (hi-lo).toNat,?_,λb hb=>?_,q⟩
 . have e1:lo+((0:Nat):Int)*1=lo:=by simp
   have e2:(((hi-lo).toNat:Nat):Int)-((0:Nat):Int)=Builtin.Range.rangeSize lo hi 1:=by rw[rangeSize_one];split<;>omega
   show IsRangeIter _ _ (lo+((0:Nat):Int)*1) ((((hi-lo).toNat:Nat):Int)-((0:Nat):Int)) 1;rw[e1,e2];exact A0D _ rfl
 have e:b=(s.heap.push {cls:=.type "range",data:=.fields #[.int lo t,.int hi u,.int 1 v]}).objs.size:=by simpa using hb
 subst e;exact I1.fpOk (A07 _) (I1.hok.fresh (A07 _))
def aI7 (ta:TA):TI:=fun σ H R=>ta σ H λvs H1=>∃ j:Int,vs=[.int j] /\ -(2 ^ 62)<=j/\j<2 ^ 62/\R (Itr 0 j.toNat) H1
def aF7 (ta:TA):TI:=fun σ H R=>ta σ H λvs H1=>∃ i j:Int,vs=[.int i,.int j]/\(-(2 ^ 62)<=i/\i<2 ^ 62 /\ -(2 ^ 62)<=j/\j<2 ^ 62)/\R (Itr i (j-i).toNat) H1
theorem Hh {a:Expr}{ta:TA}{p pos:Pos}(hg:Gl X "range")(hm:X.mg "range" = none)(ha:PA X [a] ta)(hs:starEach [a] X.env=[(false,eval a X.env)]:=by ac_nf):PI X tg (.Call (.Name "range" p) [a] [] pos) (aI7 ta):=by
 intro pins s σ H R I h;refine Call_ (J9 I hg hm boot_range (A1K (thn (ha pos pins s σ H _ I h) λus s1 ⟨vs,H1,I1,r1,q1⟩=>?_) hs rfl));obtain⟨j,e,q1,q2,q⟩:=q1;subst e
 cases r1 with
 |cons r rr=>cases rr;obtain⟨t,rfl⟩:=r;exact call_range_1 (Vl I1 nofun nofun q1 q2 (by simpa using q))
theorem Xy {a b:Expr}{ta:TA}{p pos:Pos}(hg:Gl X "range")(hm:X.mg "range" = none)(ha:PA X [a,b] ta)(hs:starEach [a,b] X.env=[(false,eval a X.env),(false,eval b X.env)]:=by ac_nf)(hs2:starEach [b] X.env=[(false,eval b X.env)]:=by ac_nf) :
  PI X tg (.Call (.Name "range" p) [a,b] [] pos) (aF7 ta):=by
 intro pins s σ H R I h;refine Call_ (J9 I hg hm boot_range (A1K (thn (ha pos pins s σ H _ I h) λus s1 ⟨vs,H1,I1,r1,q1⟩=>?_) (by rw[hs,hs2]) (by rw[hs2];rfl)));obtain⟨i,j,e,⟨q1,q2,q3,q4⟩,q⟩:=q1;subst e
 cases r1 with
 |cons r rr=>
   cases rr with
   |cons r' rr=>cases rr;obtain⟨t,rfl⟩:=r;obtain⟨t',rfl⟩:=r';exact call_range_2 (Vl I1 q1 q2 q3 q4 q)
def aS7 (wi:TI)(g:TG)(tb:TS):TS:=λD σ H=>wi σ H λJ H1=>∃ W:Nat->Nat->St->Hp->Prop,(∃ m,W 0 m σ H1)/\∀ i m σ H,W i m σ H ->
 (J.stop i H/\D.nx σ H)\/(J.go i H/\∃ N:St->Hp->Prop,(∀ σ' H',N σ' H'->∃ m',m'<m/\W (i+1) m' σ' H')/\∀ x H',J.yld i H x H'->g x σ H' fun σ2 H2=>tb {D with nx:=N,ct:=N,bk:=D.nx} σ2 H2)
def Th (fp:List Addr)(h:Heap):List (Addr×Obj):=fp.filterMap λb=>(h.get? b).map λo=>(b,o)
theorem Jg {fp:List Addr}{h:Heap}{b:Addr}{o:Obj}(hb:b∈fp)(e:h.get? b=some o):(b,o)∈Th fp h:=A59.mpr ⟨b,hb,by rw[e];rfl⟩
theorem a79 {fp:List Addr} {h:Heap} {p:Addr×Obj} (hp:p∈Th fp h):p.1∈fp/\h.get? p.1=some p.2:=by
 obtain⟨b,hb,e⟩:=A59.mp hp
 cases q:h.get? b with
 |none=>rw[q] at e;cases e
 |some o=>rw[q] at e;have e':(b,o)=p:=A0O e;subst e';exact⟨hb,q⟩
theorem Inv.pinned {pins:List (Addr×Obj)}{σ:St}{H:Hp}{s:Shared}{fp:List Addr}(I:Inv X pins σ H s)(hf:∀ b∈fp,Vm X pins H b)(ho:∀ b∈fp,∃ o,s.heap.get? b=some o/\∀ v,o.data ≠ .cell v):Inv X (pins++Th fp s.heap) σ H s:=
 I.pins_of λp hp=>(A0G.mp hp).elim (λz=>I.pin p (A18 _ z)) λz=>by obtain⟨hb,e⟩:=a79 z;obtain⟨f0,f1,f2,_⟩:=hf p.1 hb;obtain⟨o,e',d⟩:=ho p.1 hb;rw[e] at e';cases e';exact⟨e,f0,f1,f2,d⟩
theorem Inv.unpinned {pins pl:List (Addr×Obj)}{σ:St}{H:Hp}{s:Shared}(I:Inv X (pins++pl) σ H s):Inv X pins σ H s:=I.pins_of λp hp=>I.pin p (A18 _ (A0X _ hp))
theorem Eo {iter:Expr}{body:List Stmt}{wi:TI}{g:TG}{tb:TS}{pos:Pos}(hp:PassesOwn (model X.prog X.w) X.A X.env X.xe)(hc:X.calm=true)(hi:PI X tg iter wi)(hg:PG X tg g)(hb:PSs X body tb)
  (hs:∀ x,foldedSetIterable iter X.env x=pure x:=by intro _;ac_nf):PS X (.For tg iter body [] pos) (aS7 wi g tb):=by
 intro pins s σ H D I h;refine wpAny_For (thn (hi pins s σ H _ I h) λv s1 h1=>thn h1 λitv s2 h2=>?_) hs;obtain⟨it,fp,tn,J,H2,e,I2,T,st2,f2,W,⟨m0,w0⟩,turn⟩:=h2;subst e;have stat:∀ {H':Hp},(∀ b∈fp,H' b=none)->∀ b∈fp,Vm X pins H' b:=λhn b hb=>⟨hn b hb,(f2 b hb).2⟩;refine codeAny_forLoop_any (λn s'=>∃ i σ' H',Inv X pins σ' H' s'/\tn i s'.heap/\(∀ b∈fp,H' b=none)/\W i n σ' H') ?_ m0 ⟨0,σ,H2,I2,st2,λb hb=>(f2 b hb).1,w0⟩;rintro n s3 ⟨i,σ3,H3,I3,st3,fr3,w3⟩;rcases turn i n σ3 H3 w3 with ⟨stop,qn⟩|⟨go,N,hN,step⟩
 . refine A2S hp (thn (T.done X rfl rfl rfl hc i pins s3 σ3 H3 X.xe I3 (stat fr3) st3 stop) λr s4 ⟨hr,I4⟩=>?_);subst hr;exact A4L ⟨σ3,H3,I4,qn⟩
 refine A2S hp (thn (T.item X rfl rfl rfl hc i pins s3 σ3 H3 X.xe I3 (stat fr3) st3 go) λr s4 ⟨u,hr,h4⟩=>?_);subst hr;refine A2S hp (thn h4 λ_ s5 ⟨x,H5,I5,r5,y5,st5,fr5⟩=>?_);have I5':=I5.pinned (stat fr5) (T.obj _ _ st5);refine A2S hp (thn (hg _ s5 σ3 H5 x u _ I5' r5 (step x H5 y5)) λ_ s6 ⟨σ6,H6,I6,q6⟩=>?_);refine A2S hp (thn (hb _ s6 σ6 H6 _ I6 q6) λf s7 q7=>?_)
 have again:∀ {σ7:St} {H7:Hp},Inv X (pins++Th fp s5.heap) σ7 H7 s7->N σ7 H7->∃ m,m<n/\∃ i σ' H',Inv X pins σ' H' s7/\tn i s7.heap/\(∀ b∈fp,H' b=none)/\W i m σ' H':=fun {σ7 H7} I7 n7=>by obtain⟨m',hm,w7⟩:=hN σ7 H7 n7;refine⟨m',hm,i+1,σ7,H7,I7.unpinned,T.keep _ _ _ st5 λb hb o e=>(I7.pin (b,o) (A18 _ (A18 _ (Jg hb e)))).1,λb hb=>?_,w7⟩;obtain⟨o,e,d⟩:=T.obj _ _ st5 b hb;exact(I7.pin (b,o) (A18 _ (A18 _ (Jg hb e)))).2.1
 cases f with
 |next=>obtain⟨σ7,H7,I7,n7⟩:=q7;exact again I7 n7
 |cont=>obtain⟨σ7,H7,I7,n7⟩:=q7;exact again I7 n7
 |brk=>obtain⟨σ7,H7,I7,q7⟩:=q7;exact⟨σ7,H7,I7.unpinned,q7⟩
 |ret v=>obtain⟨x7,σ7,H7,I7,r7,q7⟩:=q7;exact⟨x7,σ7,H7,I7.unpinned,r7,q7⟩
end
abbrev R2:=V->V->Hp->VK->Prop
def OpR (X:Cx)(f:Value->Value->Sem Value)(r:R2):Prop:=
 ∀(pins:List (Addr×Obj)) (s:Shared) (σ:St) (H:Hp) (x y:V) (v u:Value) (Q:VK),Inv X pins σ H s->RelV x v->RelV y u->r x y H Q ->
  wpAny (model X.prog X.w) X.A (f v u) (EP X pins σ Q) X.xe s
def UnR (X:Cx)(f:Value->Sem Value)(r:V->Hp->VK->Prop):Prop:=
 ∀(pins:List (Addr×Obj)) (s:Shared) (σ:St) (H:Hp) (x:V) (v:Value) (Q:VK),Inv X pins σ H s->RelV x v->r x H Q ->
  wpAny (model X.prog X.w) X.A (f v) (EP X pins σ Q) X.xe s
def CallR (X:Cx)(f:Value)(r:List V->Hp->VK->Prop):Prop:=
 ∀(pins:List (Addr×Obj)) (s:Shared) (σ:St) (H:Hp) (xs:List V) (us:List Value) (Q:VK),Inv X pins σ H s->Vals xs us->r xs H Q ->
  wpAny (model X.prog X.w) X.A (call f us) (EP X pins σ Q) X.xe s
def TruR (X:Cx)(r:V->Hp->(Bool->Hp->Prop)->Prop):Prop:=
 ∀(pins:List (Addr×Obj)) (s:Shared) (σ:St) (H:Hp) (x:V) (v:Value) (Q:Bool->Hp->Prop),Inv X pins σ H s->RelV x v->r x H Q ->
  wpAny (model X.prog X.w) X.A (truthy v) (TP X pins σ Q) X.xe s
def tOp (r:R2)(ta tb:TE):TE:=fun σ H Q=>ta σ H λx H1=>tb σ H1 λy H2=>r x y H2 Q
def tUn (r:V->Hp->VK->Prop)(ta:TE):TE:=fun σ H Q=>ta σ H λx H1=>r x H1 Q
def rI (C:Int->Int->Prop)(g:Int->Int->V):R2:=λx y H Q=>∃ i j,x = .int i/\y = .int j/\C i j/\Q (g i j) H
def rI0 (g:Int->Int->V):R2:=λx y H Q=>∃ i j,x = .int i/\y = .int j/\Q (g i j) H
def rU (g:Int->V):V->Hp->VK->Prop:=λx H Q=>∃ i,x = .int i/\Q (g i) H
section
variable {X:Cx}{a b c:Expr}{ta tb tc:TE}{pos:Pos}
theorem aN8 (ha:PE X a ta)(hb:PE X b tb){pins:List (Addr×Obj)}{s:Shared}{σ:St}{H:Hp}{R:V->V->Hp->Prop}(I:Inv X pins σ H s)
  (h:ta σ H λx H1=>tb σ H1 λy H2=>R x y H2) {Q:Value->Shared->Prop} {f:Value->Value->Sem Value}
  (hf:∀ v u s2 x y H2,Inv X pins σ H2 s2->RelV x v->RelV y u->R x y H2->wpAny (model X.prog X.w) X.A (f v u) Q X.xe s2) :
  wpAny (model X.prog X.w) X.A (eval a X.env) (λv s₁=>wpAny (model X.prog X.w) X.A (eval b X.env) (λu s₂=>wpAny (model X.prog X.w) X.A (f v u) Q X.xe s₂) X.xe s₁) X.xe s:=by
 refine thn (ha pins s σ H _ I h) λv s1 ⟨x,H1,I1,r1,q1⟩=>?_;refine thn (hb pins s1 σ H1 _ I1 q1) λu s2 ⟨y,H2,I2,r2,q2⟩=>?_;exact hf v u s2 x y H2 I2 r1 r2 q2
theorem Ar {op:Operator}{r:R2}(ho:OpR X (binaryOp op) r)(ha:PE X a ta)(hb:PE X b tb):PE X (.BinOp a op b pos) (tOp r ta tb):=by intro pins s σ H Q I h;exact wpAny_BinOp (aN8 ha hb I h λv u s2 x y H2 I2 rx ry q=>ho pins s2 σ H2 x y v u Q I2 rx ry q)
theorem af5 {op:UnaryOp}{r:V->Hp->VK->Prop}(ho:UnR X (unaryOp op) r)(ha:PE X a ta):PE X (.UnaryOp op a pos) (tUn r ta):=by intro pins s σ H Q I h;exact UnaryOp_ (thn (ha pins s σ H _ I h) λv s1 ⟨x,H1,I1,r1,q1⟩=>ho pins s1 σ H1 x v Q I1 r1 q1)
theorem opI {f:Value->Value->Sem Value}{C:Int->Int->Prop}{g:Int->Int->Int}
  (rule:∀(i j:Int) (t u:Tok) (s:Shared) (Q:Value->Shared->Prop) (E:Value->Shared->Prop),C i j->Q (.int (g i j) s.toks) {s with toks:=s.toks+1}->wpAny (model X.prog X.w) X.A (f (.int i t) (.int j u)) Q E s) :
  OpR X f (rI C λi j=>.int (g i j)):=by
 intro pins s σ H x y v u Q I rx ry h;obtain⟨i,j,rfl,rfl,hc,q⟩:=h;obtain⟨t,rfl⟩:=rx;obtain⟨t',rfl⟩:=ry;exact rule i j t t' s _ _ hc ⟨.int (g i j),H,I.tok _,⟨_,rfl⟩,q⟩
theorem aO3 {f:Value->Value->Sem Value}{g:Int->Int->Int}
  (rule:∀(i j:Int) (t u:Tok) (s:Shared) (Q:Value->Shared->Prop) (E:Value->Shared->Prop),Q (.int (g i j) s.toks) {s with toks:=s.toks+1}->wpAny (model X.prog X.w) X.A (f (.int i t) (.int j u)) Q E s) :
  OpR X f (rI0 λi j=>.int (g i j)):=by
 intro pins s σ H x y v u Q I rx ry h;obtain⟨i,j,rfl,rfl,q⟩:=h;obtain⟨t,rfl⟩:=rx;obtain⟨t',rfl⟩:=ry;exact rule i j t t' s _ _ ⟨.int (g i j),H,I.tok _,⟨_,rfl⟩,q⟩
theorem aP9 {f:Value->Value->Sem Value}{g:Int->Int->Bool}
  (rule:∀(i j:Int) (t u:Tok) (s:Shared) (Q:Value->Shared->Prop) (E:Value->Shared->Prop),Q (.bool (g i j)) s->wpAny (model X.prog X.w) X.A (f (.int i t) (.int j u)) Q E s) :
  OpR X f (rI0 λi j=>.bl (g i j)):=by
 intro pins s σ H x y v u Q I rx ry h;obtain⟨i,j,rfl,rfl,q⟩:=h;obtain⟨t,rfl⟩:=rx;obtain⟨t',rfl⟩:=ry;exact rule i j t t' s _ _ ⟨.bl (g i j),H,I,rfl,q⟩
def aO7 (i j:Int):Prop:=0<j/\j<1073741824
def aM9 (i j:Int):Prop:=0<=j/\j<=1000000/\i.natAbs<2 ^ 64
def CMul (i j:Int):Prop:=(-(2 ^ 64)<i/\i<2 ^ 64)\/(-(2 ^ 64)<j/\j<2 ^ 64)
theorem CMul.ok {i j:Int}(h:CMul i j):IntMulOk i j:=by
 rcases h with ⟨h1,h2⟩|⟨h1,h2⟩
 . exact .of_left (intBits_le_64 h1 h2)
 exact .of_right (intBits_le_64 h1 h2)
theorem op_add:OpR X (binaryOp .Add) (rI0 λi j=>.int (i+j)):=aO3 λ_ _ _ _ _ _ _ q=>add_int q
theorem Yl:OpR X (binaryOp .Sub) (rI0 λi j=>.int (i-j)):=aO3 λ_ _ _ _ _ _ _ q=>sub_int q
theorem op_mul:OpR X (binaryOp .Mult) (rI CMul λi j=>.int (i*j)):=opI λ_ _ _ _ _ _ _ hc q=>mul_int q hc.ok
theorem ar6:OpR X (binaryOp .FloorDiv) (rI aO7 λi j=>.int (i / j)):=opI λi j _ _ _ _ _ hc q=>by have h1:(0:Int)<j:=hc.1;have h2:j<1073741824:=hc.2;exact floordiv_int nofun (by rw[Int.fdiv_eq_ediv_of_nonneg i nofun];exact q) (.inl (PyProof.noPylong_small nofun))
theorem M3:OpR X (binaryOp .Mod) (rI (λ_ j=>0<j) λi j=>.int (i % j)):=opI λi j _ _ _ _ _ hc q=>by have h1:(0:Int)<j:=hc;exact mod_int' nofun (by rw[Int.fmod_eq_emod_of_nonneg i nofun];exact q)
theorem aC3:OpR X (binaryOp .Pow) (rI aM9 λi j=>.int (i ^ j.toNat)):=opI λ_ _ _ _ _ _ _ hc q=>pow_int_small hc.1 hc.2.1 hc.2.2 q
theorem a08:OpR X (binaryOp .BitAnd) (rI0 λi j=>.int (Builtin.bitAnd i j)):=aO3 λ_ _ _ _ _ _ _ q=>and_int q
theorem unI {f:Value->Sem Value}{g:Int->Int}
  (rule:∀(i:Int) (t:Tok) (s:Shared) (Q:Value->Shared->Prop) (E:Value->Shared->Prop),Q (.int (g i) s.toks) {s with toks:=s.toks+1}->wpAny (model X.prog X.w) X.A (f (.int i t)) Q E s) :
  UnR X f (rU λi=>.int (g i)):=by
 intro pins s σ H x v Q I rx h;obtain⟨i,rfl,q⟩:=h;obtain⟨t,rfl⟩:=rx;exact rule i t s _ _ ⟨.int (g i),H,I.tok _,⟨_,rfl⟩,q⟩
theorem Vx:UnR X (unaryOp .USub) (rU λi=>.int (-i)):=unI λ_ _ _ _ _ q=>neg_int q
end
def aP1:V->V->Bool
 |.non,.non=>true | .non,.int _=>true | .int _,.non=>true | .non,.bl _=>true | .bl _,.non=>true | .non,.str _=>true | .str _,.non=>true
 |.int _,.int _=>true | .bl _,.bl _=>true | .str _,.str _=>true | .byt _,.byt _=>true
 |.int _,.str _=>true | .str _,.int _=>true | .bl _,.str _=>true | .str _,.bl _=>true
 |_,_=>false
def rEq:R2:=λx y H Q=>aP1 x y=true/\Q (.bl (decide (x=y))) H
def rNe:R2:=λx y H Q=>aP1 x y=true/\Q (.bl (!decide (x=y))) H
theorem a72 {i j:Int}:decide (V.int i=V.int j)=(i==j):=by rw[A3T];simp
theorem ai3 {i j:Bool}:decide (V.bl i=V.bl j)=(i==j):=by rw[A3T];simp
theorem Xv {i j:Str}:decide (V.str i=V.str j)=(i==j):=by rw[A3T];simp
theorem a74 {i j:Array UInt8}:decide (V.byt i=V.byt j)=(i.toList==j.toList):=by
 rw[A3T]
 cases i
 cases j;simp
section
variable {X:Cx}{a b c:Expr}{ta tb tc:TE}{pos:Pos}
theorem Bl {pins:List (Addr×Obj)}{σ:St}{H:Hp}{s:Shared}{Q:VK}{k k':Bool}(I:Inv X pins σ H s)(q:Q (.bl k) H)(e:k=k'):EP X pins σ Q (.bool k') s:=by subst e;exact⟨.bl k,H,I,rfl,q⟩
theorem op_eq:OpR X (compareOp .Eq) rEq:=by
 intro pins s σ H x y v u Q I rx ry h;obtain⟨hs,q⟩:=h
 cases x with
 |non=>
   cases rx
   cases y with
   |non=>cases ry;exact PySem.EqNone.eq_none_none (Bl I q (by simp))
   |bl j=>cases ry;exact PySem.EqNone.eq_none_bool (Bl I q (by simp))
   |int j=>obtain⟨t',rfl⟩:=ry;exact PySem.EqNone.eq_none_int (Bl I q (by simp))
   |str j=>obtain⟨t',rfl⟩:=ry;exact PySem.EqNone.eq_none_str (Bl I q (by simp))
   |_=>exact absurd (show false=true from hs) A0F
 |bl i=>
   cases rx
   cases y with
   |non=>cases ry;exact PySem.EqNone.eq_bool_none (Bl I q (by simp))
   |bl j=>cases ry;exact eq_bool (Bl I q ai3)
   |str j=>obtain⟨t',rfl⟩:=ry;exact PySem.EqMixed.eq_bool_str (Bl I q (by simp))
   |_=>exact absurd (show false=true from hs) A0F
 |int i=>
   obtain⟨t,rfl⟩:=rx
   cases y with
   |non=>cases ry;exact PySem.EqNone.eq_int_none (Bl I q (by simp))
   |int j=>obtain⟨t',rfl⟩:=ry;exact eq_int (Bl I q a72)
   |str j=>obtain⟨t',rfl⟩:=ry;exact PySem.EqMixed.eq_int_str (Bl I q (by simp))
   |_=>exact absurd (show false=true from hs) A0F
 |str i=>
   obtain⟨t,rfl⟩:=rx
   cases y with
   |non=>cases ry;exact PySem.EqNone.eq_str_none (Bl I q (by simp))
   |bl j=>cases ry;exact PySem.EqMixed.eq_str_bool (Bl I q (by simp))
   |int j=>obtain⟨t',rfl⟩:=ry;exact PySem.EqMixed.eq_str_int (Bl I q (by simp))
   |str j=>obtain⟨t',rfl⟩:=ry;exact eq_str (Bl I q Xv)
   |_=>exact absurd (show false=true from hs) A0F
 |byt i=>
   obtain⟨t,rfl⟩:=rx
   cases y with
   |byt j=>obtain⟨t',rfl⟩:=ry;exact W.eq_bytes (Bl I q a74)
   |_=>exact absurd (show false=true from hs) A0F
 |_=>cases y<;>exact absurd (show false=true from hs) A0F
theorem op_ne:OpR X (compareOp .NotEq) rNe:=by
 intro pins s σ H x y v u Q I rx ry h;obtain⟨hs,q⟩:=h
 cases x with
 |non=>
   cases rx
   cases y with
   |non=>cases ry;exact PySem.EqNone.ne_none_none (Bl I q (by simp))
   |bl j=>cases ry;exact PySem.EqNone.ne_none_bool (Bl I q (by simp))
   |int j=>obtain⟨t',rfl⟩:=ry;exact PySem.EqNone.ne_none_int (Bl I q (by simp))
   |str j=>obtain⟨t',rfl⟩:=ry;exact PySem.EqNone.ne_none_str (Bl I q (by simp))
   |_=>exact absurd (show false=true from hs) A0F
 |bl i=>
   cases rx
   cases y with
   |non=>cases ry;exact PySem.EqNone.ne_bool_none (Bl I q (by simp))
   |bl j=>cases ry;exact ne_bool (Bl I q (congrArg not ai3))
   |str j=>obtain⟨t',rfl⟩:=ry;exact PySem.EqMixed.ne_bool_str (Bl I q (by simp))
   |_=>exact absurd (show false=true from hs) A0F
 |int i=>
   obtain⟨t,rfl⟩:=rx
   cases y with
   |non=>cases ry;exact PySem.EqNone.ne_int_none (Bl I q (by simp))
   |int j=>obtain⟨t',rfl⟩:=ry;exact ne_int (Bl I q (congrArg not a72))
   |str j=>obtain⟨t',rfl⟩:=ry;exact PySem.EqMixed.ne_int_str (Bl I q (by simp))
   |_=>exact absurd (show false=true from hs) A0F
 |str i=>
   obtain⟨t,rfl⟩:=rx
   cases y with
   |non=>cases ry;exact PySem.EqNone.ne_str_none (Bl I q (by simp))
   |bl j=>cases ry;exact PySem.EqMixed.ne_str_bool (Bl I q (by simp))
   |int j=>obtain⟨t',rfl⟩:=ry;exact PySem.EqMixed.ne_str_int (Bl I q (by simp))
   |str j=>obtain⟨t',rfl⟩:=ry;exact ne_str (Bl I q (congrArg not Xv))
   |_=>exact absurd (show false=true from hs) A0F
 |byt i=>
   obtain⟨t,rfl⟩:=rx
   cases y with
   |byt j=>obtain⟨t',rfl⟩:=ry;exact W.ne_bytes (Bl I q (congrArg not a74))
   |_=>exact absurd (show false=true from hs) A0F
 |_=>cases y<;>exact absurd (show false=true from hs) A0F
theorem aF6:OpR X (compareOp .Lt) (rI0 λi j=>.bl (decide (i<j))):=aP9 λ_ _ _ _ _ _ _ q=>lt_int q
theorem aN6:OpR X (compareOp .LtE) (rI0 λi j=>.bl (decide (i<=j))):=aP9 λ_ _ _ _ _ _ _ q=>le_int q
theorem at6:OpR X (compareOp .Gt) (rI0 λi j=>.bl (decide (j<i))):=aP9 λ_ _ _ _ _ _ _ q=>gt_int q
theorem op_in_str:OpR X (compareOp .In) (λx y H Q=>∃ i j,x = .str i/\y = .str j/\Q (.bl (!(Builtin.Str.occurrences j i 0 j.length 1).isEmpty)) H):=by intro pins s σ H x y v u Q I rx ry h;obtain⟨i,j,rfl,rfl,q⟩:=h;obtain⟨t,rfl⟩:=rx;obtain⟨t',rfl⟩:=ry;exact in_str (Bl I q rfl)
theorem aG3:OpR X (compareOp .Is) (λx y H Q=>y = .non/\Q (.bl (decide (x = .non))) H):=by
 intro pins s σ H x y v u Q I rx ry h;obtain⟨rfl,q⟩:=h
 cases ry;refine is_none_gen (Bl I q ?_)
 cases x<;>first
  | (cases rx;rfl)
  | (obtain⟨t,rfl⟩:=rx;rfl)
theorem OpR.or {f:Value->Value->Sem Value}{r r':R2}(h:OpR X f r)(h':OpR X f r'):OpR X f (λx y H Q=>r x y H Q\/r' x y H Q):=by
 intro pins s σ H x y v u Q I rx ry q;rcases q with q|q
 . exact h pins s σ H x y v u Q I rx ry q
 exact h' pins s σ H x y v u Q I rx ry q
theorem Ay (b:Expr){op:CmpOp}(h:op ≠ .In:=by decide)(h2:op ≠ .NotIn:=by decide):behindInMarks op b=false:=by
 have e1:(op==CmpOp.In)=false:=by cases op<;>first | rfl | exact absurd rfl h
 have e2:(op==CmpOp.NotIn)=false:=by cases op<;>first | rfl | exact absurd rfl h2
 cases b<;>simp[behindInMarks,e1,e2]
theorem Cu {op:CmpOp}{r:R2}(ho:OpR X (compareOp op) r)(ha:PE X a ta)(hb:PE X b tb)(hm:behindInMarks op b=false):PE X (.Compare a [op] [b] pos) (tOp r ta tb):=by intro pins s σ H Q I h;exact wpAny_Compare1 (aN8 ha hb I h λv u s2 x y H2 I2 rx ry q=>ho pins s2 σ H2 x y v u Q I2 rx ry q) hm
def aH1 (t:TE):TT:=fun σ H Q=>t σ H λx H'=>∃ k,x = .bl k/\Q k H'
theorem An {op:CmpOp}{r:R2}(ho:OpR X (compareOp op) r)(ha:PE X a ta)(hb:PE X b tb)(hm:behindInMarks op b=false):PT X (.Compare a [op] [b] pos) (aH1 (tOp r ta tb)):=by
 intro pins s σ H Q I h
 refine wpAny_isTrue_Compare1 (thn (ha pins s σ H _ I h) λv s1 ⟨x,H1,I1,r1,q1⟩=>thn (hb pins s1 σ H1 _ I1 q1) λu s2 ⟨y,H2,I2,r2,q2⟩=>thn (ho pins s2 σ H2 x y v u _ I2 r1 r2 q2) λc s3 ⟨z,H3,I3,r3,k,e,q3⟩=>?_) hm
 subst e
 cases r3;exact A3F ⟨H3,I3,q3⟩
def TruV (K:W.Frag)(x:V)(H:Hp)(k:Bool):Prop:=
 match x with
 |.non=>k=false
 |.bl b=>k=b
 |.int i=>k=(i != 0)
 |.str y=>y.length<=sizeLine/\k=((y.length:Int) != 0)
 |.byt y=>y.size<=sizeLine/\k=((y.size:Int) != 0)
 |.ref p=>(∃ xs,SqL K H p xs/\k = !xs.isEmpty)\/(∃ xs,SqT K H p xs/\k = !xs.isEmpty)\/∃ kvs,H p=some (.dK kvs)/\k = !kvs.isEmpty
 |_=>False
theorem X7 {κ:Type}{kvs:List (κ×V)}{vs:List (κ×Value)}(r:KV kvs vs):(!vs.isEmpty) = !kvs.isEmpty:=by cases r<;>rfl
theorem Py {xs:List V}{its:List Value}(r:Vals xs its):(!its.toArray.isEmpty) = !xs.isEmpty:=by cases r<;>simp
theorem Og:(sizeLine:Nat)<2 ^ 63:=by rw[A1F];decide
theorem aB1:TruR X (λx H Q=>∃ k,TruV X.K x H k/\Q k H):=by
 intro pins s σ H x v Q I rx h;obtain ⟨k,e,q⟩:=h;have hl:=Og;have hs:sizeLine=16777216:=A1F
 cases x with
 |non=>cases rx;have e':k=false:=e;subst e';exact truthy_none ⟨H,I,q⟩
 |bl b=>cases rx;have e':k=b:=e;subst e';exact A3F ⟨H,I,q⟩
 |int i=>obtain⟨t,rfl⟩:=rx;have e':k=(i != 0):=e;subst e';exact PySem.P.truthy_int ⟨H,I,q⟩
 |str y=>obtain⟨t,rfl⟩:=rx;obtain⟨hy,e'⟩:y.length<=sizeLine/\k=((y.length:Int) != 0):=e;subst e';exact PySem.P.truthy_str nofun ⟨H,I.tok _,q⟩
 |byt y=>obtain⟨t,rfl⟩:=rx;obtain⟨hy,e'⟩:y.size<=sizeLine/\k=((y.size:Int) != 0):=e;subst e';exact W.truthy_bytes nofun ⟨H,I.tok _,q⟩
 |ref p=>
   cases rx;have e':(∃ xs,SqL X.K H p xs/\k = !xs.isEmpty)\/(∃ xs,SqT X.K H p xs/\k = !xs.isEmpty)\/∃ kvs,H p=some (.dK kvs)/\k = !kvs.isEmpty:=e;rcases e' with ⟨xs,hx,e'⟩|⟨xs,hx,e'⟩|⟨kvs,hx,e'⟩
   . subst e';obtain⟨its,r,pl,hz⟩:=I.list hx;have hlen:=r.length;exact wpAny_truthy_list pl.isList (by simp only[List.size_toArray];omega) ⟨H,I.tok _,by rw[Py r];exact q⟩
   . subst e';obtain⟨its,r,pl,hz⟩:=I.tuple hx;have hlen:=r.length;exact truthy_tuple pl (by simp only[List.size_toArray];omega) ⟨H,I.tok _,by rw[Py r];exact q⟩
   subst e';obtain⟨hz,hS,vs,r,m⟩:kvs.length<=sizeLine/\(p==sysModules)=false/\∃ vs,KV kvs vs/\s.heap.DictOf (Ao X.prog X.w) p vs:=I.hok p _ hx;have hlen:kvs.length=vs.length:=A2U r;exact wpAny_truthy_dict hS m nofun ⟨H,I.tok _,by rw[X7 r];exact q⟩
 |_=>exact(show False from e).elim
theorem op_add_str:OpR X (binaryOp .Add) (λx y H Q=>∃ i j,x = .str i/\y = .str j/\i.length+j.length<=sizeLine/\Q (.str (i++j)) H):=by intro pins s σ H x y v u Q I rx ry h;obtain⟨i,j,rfl,rfl,hz,q⟩:=h;obtain⟨t,rfl⟩:=rx;obtain⟨t',rfl⟩:=ry;exact add_str (λt' tk=>⟨.str (i++j),H,I.tok _,⟨_,rfl⟩,q⟩) hz
theorem K6 {x:V}{us:List Value}(r:Vals [x] us):∃ u,us=[u]/\RelV x u:=by
 cases r with
 |cons r1 r2=>cases r2;exact⟨_,rfl,r1⟩
theorem Rl {x y:V}{us:List Value}(r:Vals [x,y] us):∃ u w',us=[u,w']/\RelV x u/\RelV y w':=by
 cases r with
 |cons r1 r2=>
   cases r2 with
   |cons r3 r4=>cases r4;exact⟨_,_,rfl,r1,r3⟩
theorem a80:CallR X (.type "int") (λxs H Q=>(∃ i,xs=[.int i]/\Q (.int i) H)\/∃ k,xs=[.bl k]/\Q (.int (if k then 1 else 0)) H):=by
 intro pins s σ H xs us Q I r h;rcases h with ⟨i,rfl,q⟩|⟨k,rfl,q⟩
 . obtain⟨u,rfl,t,rfl⟩:=K6 r;exact call_int_int ⟨.int i,H,I,⟨_,rfl⟩,q⟩
 obtain⟨u,rfl,r1⟩:=K6 r
 cases r1;exact call_int_bool ⟨.int (if k then 1 else 0),H,I.tok _,⟨_,rfl⟩,q⟩
theorem Se:CallR X (.type "str") (λxs H Q=>∃ i,xs=[.int i]/\i.natAbs.log2<1920/\Q (.str (toString i)) H):=by intro pins s σ H xs us Q I r h;obtain⟨i,rfl,hz,q⟩:=h;obtain⟨u,rfl,t,rfl⟩:=K6 r;exact PySem.P.str_of_int hz ⟨.str _,H,I.tok _,⟨_,rfl⟩,q⟩
def aR5 (K:W.Frag)(x:V)(H:Hp)(n:Nat):Prop:=
 match x with
 |.str y=>y.length<=sizeLine/\n=y.length
 |.byt y=>y.size<=sizeLine/\n=y.size
 |.ref p=>(∃ xs,SqL K H p xs/\n=xs.length)\/∃ xs,SqT K H p xs/\n=xs.length
 |_=>False
theorem call_len:CallR X (.builtin "len") (λxs H Q=>∃ x n,xs=[x]/\aR5 X.K x H n/\Q (.int n) H):=by
 intro pins s σ H xs us Q I r h;obtain⟨x,n,rfl,e,q⟩:=h;obtain ⟨u,rfl,rx⟩:=K6 r;have hl:=Og;have hs:sizeLine=16777216:=A1F
 cases x with
 |str y=>obtain⟨t,rfl⟩:=rx;obtain⟨hy,e'⟩:y.length<=sizeLine/\n=y.length:=e;subst e';exact len_str nofun ⟨.int _,H,I.tok _,⟨_,rfl⟩,q⟩
 |byt y=>obtain⟨t,rfl⟩:=rx;obtain⟨hy,e'⟩:y.size<=sizeLine/\n=y.size:=e;subst e';exact W.len_bytes nofun ⟨.int _,H,I.tok _,⟨_,rfl⟩,q⟩
 |ref p=>
   cases rx;have e':(∃ xs,SqL X.K H p xs/\n=xs.length)\/∃ xs,SqT X.K H p xs/\n=xs.length:=e;rcases e' with ⟨xs,hx,e'⟩|⟨xs,hx,e'⟩
   . subst e';obtain⟨its,r',pl,hz⟩:=I.list hx;have hlen:=r'.length;exact Calls.call_len_list pl.isList (by simp only[List.size_toArray];omega) ⟨.int xs.length,H,I.tok _,⟨_,by simp only[List.size_toArray];rw[hlen]⟩,q⟩
   subst e';obtain⟨its,r',pl,hz⟩:=I.tuple hx;have hlen:=r'.length;exact len_tuple pl (by simp only[List.size_toArray];omega) ⟨.int xs.length,H,I.tok _,⟨_,by simp only[List.size_toArray];rw[hlen]⟩,q⟩
 |_=>exact(show False from e).elim
end
structure ObjM (h:Heap)(x dx C:Addr)(mA:Str->Option Value):Prop where
 obj:h.get? x=some (W.instObj C dx)
 ns:h.Ns1 dx mA
 ne:dx≠x
theorem Tl {h:Heap}{dx:Addr}{mA:Str->Option Value}(n:h.Ns1 dx mA):∃ od,h.get? dx=some od/\∀ name,W.lookIn name od=some (mA name):=by
 obtain⟨o,es,ep,ho,hd,hk,_,hm⟩:=n;refine⟨o,ho,λname=>?_⟩;have e:=hm name;unfold nsFind findBy at e;rw[<- Array.find?_toList] at e;unfold W.lookIn;rw[hd];dsimp only
 split
 . rename_i y q;rw[q] at e;exact congrArg some e
 rename_i q;rw[q] at e
 have a:es.toList.any (·.refKey)=false:=by rw[List.any_eq_false];intro y hy;obtain⟨z,t,hkey⟩:=hk y (Array.mem_toList_iff.mp hy);simp[DictEntry.refKey,hkey]
 have a':¬ es.toList.any (·.refKey)=true:=by rw[a];exact A0F
 rw[A0J a'];exact congrArg some e
theorem ObjM.look {h:Heap}{x dx C:Addr}{mA:Str->Option Value}(I:ObjM h x dx C mA):∃ od,W.InstAt h x (W.instObj C dx) C (some od)/\∀ name,W.lookIn name od=some (mA name):=
 let ⟨od,ho,hl⟩:=Tl I.ns
 ⟨od,⟨I.obj,rfl,rfl,ho⟩,hl⟩
section
variable {prog:Program}{w:World}{A:Around}{E:Value->Shared->Prop}{s:Shared}{K:W.Frag}{x dx C f:Addr}{mA:Str->Option Value}{name:Str}{v:Value}
theorem ap8 {expr:Bool}{Q:Value->Shared->Prop}(X:K.In s.heap)(I:ObjM s.heap x dx C mA)(hg:W.plainGet K C name=true)(hh:W.hasDictIn K C=true)
  (ha:W.findIn K (.ref C) name=some none) (hv:mA name=some v) (hv':W.handedIn v=true) (h:Q v {s with toks:=s.toks+1}) :
  wpAny (model prog w) A (getAttr (.ref x) name expr) Q E s:=by
 obtain⟨od,J,hl⟩:=I.look;exact W.get_value X J (A52 hg).1 (W.findObj_own hh ha rfl (by rw[hl,hv])) hv' h
theorem aa4 {pl:Sem Bool}{Q:Value×List Value->Shared->Prop}(X:K.In s.heap)(I:ObjM s.heap x dx C mA)(hg:W.plainGet K C name=true)
  (hf:W.findIn K (.ref C) name=some (some (.ref f))) (ht:W.isFn K (.ref f)=true) (hv:mA name=none) (h:Q (.ref f,[.ref x]) s) :
  wpAny (model prog w) A (getMethod (.ref x) name pl) Q E s:=by
 obtain⟨od,J,hl⟩:=I.look;exact W.method_fn X J (A52 hg).1 (A52 hg).2 hf (A24.mp ht) (by show(W.lookIn name od).map (·.isSome)=some false;rw[hl,hv];rfl) h
theorem ar3 {ns:List Str}{Q:Unit->Shared->Prop}(X:K.In s.heap)(I:ObjM s.heap x dx C mA)
  (hs:W.findIn K (.ref C) "__setattr__" = some (some (.builtin "object.__setattr__"))) (hp:W.plainOver K C=true) (ht:W.takerIn K C name=some none) (hh:W.hasDictIn K C=true)
  (hw:PySem.Within mA ns) (hsz:ns.length<=sizeLine)
  (h:∀ h',ObjM h' x dx C (λy=>if y=name then some v else mA y)->Heap.SameBut dx s.heap h'->Q () {s with heap:=h',toks:=s.toks+2}) :
  wpAny (model prog w) A (setAttr (.ref x) name v) Q E s:=by
 obtain⟨od,J,hl⟩:=I.look;refine W.set_plain X J hs (W.osa_open (s:={s with toks:=s.toks+1}) (r:=none) X J hp ht λb=>?_)
 obtain⟨cd,hc,hd'⟩:=A4E hh;have hx:s.heap.get? x=some ⟨.ref C,some dx,.plain,#[]⟩:=I.obj;refine A03 (A09 (A03 (A03 (A4Z hx (A03 (A5A (s:={s with toks:=s.toks+1}) (A3U X hc) ?_))))))
 rw[hd'];refine A09 (a:=some dx) (A03 (A09 (A03 ?_)));refine wpAny_nsSet1 (s:={s with toks:=s.toks+1}) I.ns λh' hn2 hs2=>?_
 obtain⟨oD,esD,epD,hoD,hdD,hcD⟩:=hn2.count (PySem.Within.cons name v hw);refine A03 (wpAny_lookBehind hoD (by rw[hdD];exact pastItsLine_dict (A0L hcD (by rw[A0N];omega))) ?_);exact A09 (h _ ⟨(hs2.2 _ (Ne.symm I.ne)).trans I.obj,hn2,I.ne⟩ hs2)
theorem ac5 {R:Result->Shared->Prop}{vs:List Value}{kw:List (Str×Value)}(X:K.In s.heap)(hm:W.makesIn K C=true)
  (hi:W.findIn K (.ref C) "__init__" = some (some (.ref f))) (hf:W.typeIn K (.ref f)=some (.type "function"))
  (h:codeAny (model prog w) (A.under (.builtin "type.__call__" ⟨.ref C :: vs,kw⟩)) (.call (.ref f) ⟨.ref (s.heap.objs.size+1) :: vs,kw⟩) (W.InitBack (s.heap.objs.size+1) R)
   {s with heap:=(s.heap.push W.emptyDict).push (W.instObj C s.heap.objs.size)}) :
  codeAny (model prog w) A (.call (.ref C) ⟨vs,kw⟩) R s:=by
 obtain⟨hh,g,d,t,os⟩:=s;exact W.make_core (W.makes_of X hm) (A2X X hi) (λself=>W.bind_fn X self hf) (.inl rfl) h
end
def M0 (f:Str) (v:V):List (Str×V)->List (Str×V)
 | []=>[(f,v)]
 | (g,x) :: r=>if g=f then(g,v) :: r else(g,x) :: M0 f v r
theorem Jy (f g:Str)(v:V):∀ fs:List (Str×V),(M0 f v fs).lookup g=if g=f then some v else fs.lookup g
 | []=>by
   show List.lookup g [(f,v)]=_
   by_cases h:g=f
   . have hb:(g==f)=true:=A24.mpr h;simp only[List.lookup,hb,if_pos h]
   have hb:(g==f)=false:=A0Y.mpr h;simp only[List.lookup,hb,if_neg h]
 | (k,x) :: r=>by
   have ih:=Jy f g v r;rw[show M0 f v ((k,x) :: r)=(if k=f then(k,v) :: r else(k,x) :: M0 f v r) from rfl]
   by_cases hk:k=f
   . rw[A0R hk]
     by_cases h:g=k
     . have hb:(g==k)=true:=A24.mpr h;simp only[List.lookup,hb,if_pos (h.trans hk)]
     have hb:(g==k)=false:=A0Y.mpr h;simp only[List.lookup,hb,if_neg (λe:g=f=>h (e.trans hk.symm))]
   rw[A0J hk]
   by_cases h:g=k
   . have hb:(g==k)=true:=A24.mpr h;simp only[List.lookup,hb,if_neg (λe:g=f=>hk (h.symm.trans e))]
   have hb:(g==k)=false:=A0Y.mpr h;simp only[List.lookup,hb];exact ih
theorem Nh (f:Str)(v:V):∀ fs:List (Str×V),f∈(M0 f v fs).map (·.1)/\∀ g,g∈fs.map (·.1)->g∈(M0 f v fs).map (·.1)
 | []=>⟨by simp[M0],λg h=>by simp at h⟩
 | (k,x) :: r=>by
   obtain⟨i1,i2⟩:=Nh f v r;rw[show M0 f v ((k,x) :: r)=(if k=f then(k,v) :: r else(k,x) :: M0 f v r) from rfl]
   by_cases hk:k=f
   . rw[A0R hk];subst hk;exact⟨by simp,λg h=>by simpa using h⟩
   rw[A0J hk];refine⟨?_,λg h=>?_⟩
   . rw[A0H];exact A0B _ i1
   rw[A0H] at h ⊢;rcases A0C.mp h with e|e
   . exact A0C.mpr (.inl e)
   exact A0B _ (i2 g e)
theorem Mt (f:Str)(v:V):∀ fs:List (Str×V),(M0 f v fs).length<=fs.length+1
 | []=>by simp[M0]
 | (k,x) :: r=>by
   have ih:=Mt f v r;rw[show M0 f v ((k,x) :: r)=(if k=f then(k,v) :: r else(k,x) :: M0 f v r) from rfl]
   by_cases hk:k=f
   . rw[A0R hk,A0N,A0N];omega
   rw[A0J hk,A0N,A0N];omega
theorem RelO.some_of {v:V}{o:Option Value}(r:RelO (some v) o):∃ u,o=some u/\RelV v u:=by
 cases o with
 |none=>exact(show False from r).elim
 |some u=>exact⟨u,rfl,r⟩
theorem RelO.none_of {o:Option Value}(r:RelO none o):o=none:=by
 cases o with
 |none=>rfl
 |some u=>exact(show False from r).elim
theorem Sb {v:V}{u:Value}(r:RelV v u):W.handedIn u=true:=by
 cases v with
 |non=>cases (show u=Value.none from r);rfl
 |bl b=>cases (show u=Value.bool b from r);rfl
 |int i=>obtain⟨t,e⟩:=(show ∃ t,u=Value.int i t from r);cases e;rfl
 |str x=>obtain⟨t,e⟩:=(show ∃ t,u=Value.str x t from r);cases e;rfl
 |byt b=>obtain⟨t,e⟩:=(show ∃ t,u=Value.bytes b t from r);cases e;rfl
 |flt b=>obtain⟨t,e⟩:=(show ∃ t,u=Value.float b t from r);cases e;rfl
 |ref a=>cases (show u=Value.ref a from r);rfl
 |ty n=>cases (show u=Value.type n from r);rfl
section
variable {P:Program}{w:World}{H H':Hp}{h h':Heap}{a C dx:Addr}{fs fs':List (Str×V)}
theorem Rk (hok:HOk P w H h)(e:H a=some (.ins C dx fs)):∃ mA,ObjM h a dx C mA/\(∀ f,RelO (fs.lookup f) (mA f))/\PySem.Within mA (fs.map (·.1))/\fs.length<=1000/\H dx=some (.own a):=by obtain⟨d,z,ne,ob,mA,n,r,q⟩:=(show ObjOk P w H h a (.ins C dx fs) from hok a _ e);exact⟨mA,⟨ob,n,ne⟩,r,q,z,d⟩
end
structure Cls (K:W.Frag)(C:Addr):Prop where
 pg:W.plainGet K C Str.empty=true
 hd:W.hasDictIn K C=true
 po:W.plainOver K C=true
 sa:W.findIn K (.ref C) "__setattr__" = some (some (.builtin "object.__setattr__"))
theorem Cls.get {K:W.Frag}{C:Addr}(c:Cls K C)(f:Str):W.plainGet K C f=true:=c.pg
def NoAttr (K:W.Frag)(C:Addr)(f:Str):Prop:=W.findIn K (.ref C) f=some none
theorem NoAttr.taker {K:W.Frag}{C:Addr}{f:Str}(n:NoAttr K C f):W.takerIn K C f=some none:=by unfold W.takerIn;rw[show W.findIn K (.ref C) f=some none from n];rfl
structure ax4 (K:W.Frag)(C:Addr)(m:Str)(f:Addr):Prop where
 at_:W.findIn K (.ref C) m=some (some (.ref f))
 fn:W.isFn K (.ref f)=true
 kp:W.keepIn K (.ref f)=true
section
variable {X:Cx}{pins:List (Addr×Obj)}{σ:St}{H:Hp}{s:Shared}{a C dx:Addr}{fs:List (Str×V)}{f:Str}{v:V}{A:Around}{E:Value->Shared->Prop}
theorem Wu {b:Bool}{Q:Value->Shared->Prop}(I:Inv X pins σ H s)(e:H a=some (.ins C dx fs))(c:Cls X.K C)(n:NoAttr X.K C f)(l:fs.lookup f=some v)
  (h:∀ u s',Inv X pins σ H s'->RelV v u->Q u s'):wpAny (model X.prog X.w) A (getAttr (.ref a) f b) Q E s:=by
 obtain⟨mA,O,r,_,_,_⟩:=Rk I.hok e;obtain⟨u,hu,ru⟩:=RelO.some_of (v:=v) (o:=mA f) (by rw[<- l];exact r f);exact ap8 I.kIn O (c.get f) c.hd n hu (Sb ru) (h u _ (I.tok _) ru)
theorem Ps {m:Str}{g:Addr}{pl:Sem Bool}{Q:Value×List Value->Shared->Prop}(I:Inv X pins σ H s)(e:H a=some (.ins C dx fs))(c:Cls X.K C)(k:ax4 X.K C m g)(l:fs.lookup m=none)
  (h:Q (.ref g,[.ref a]) s):wpAny (model X.prog X.w) A (getMethod (.ref a) m pl) Q E s:=by
 obtain⟨mA,O,r,_,_,_⟩:=Rk I.hok e;have hn:mA m=none:=RelO.none_of (by rw[<- l];exact r m);exact aa4 I.kIn O (c.get m) k.at_ k.fn hn h
theorem Xo {y:V}{u:Value}{Q:Unit->Shared->Prop}(I:Inv X pins σ H s)(e:H a=some (.ins C dx fs))(c:Cls X.K C)(n:NoAttr X.K C f)(hl:fs.length<1000)(ry:RelV y u)
  (h:∀ s',Inv X pins σ (upd H a (.ins C dx (M0 f y fs))) s'->Q () s'):wpAny (model X.prog X.w) A (setAttr (.ref a) f u) Q E s:=by
 obtain⟨mA,O,r,wi,_,ho⟩:=Rk I.hok e;have hz:(fs.map (·.1)).length<=sizeLine:=by rw[A02,A1F];omega
 refine ar3 I.kIn O c.sa c.po n.taker c.hd wi hz λh' O' sb=>h _ ?_;have hd:∃ o,h'.get? dx=some o:=let ⟨o,_,_,e',_⟩:=O'.ns;⟨o,e'⟩;refine I.write (x:=a) (e:=dx) (by rw[e];exact A1J) (.inr ho) (λb q hb z=>(sb.2 b hb).trans z) hd ?_;refine⟨by rw[Ah O.ne];exact ho,?_,O.ne,O'.obj,_,O'.ns,λg=>?_,λg hg=>?_⟩
 . have:=Mt f y fs;omega
 . show RelO ((M0 f y fs).lookup g) (if g=f then some u else mA g)
   rw[Jy]
   by_cases q:g=f
   . rw[A0R q,A0R q];exact ry
   rw[A0J q,A0J q];exact r g
 by_cases q:g=f
 . rw[q];exact(Nh f y fs).1
 refine(Nh f y fs).2 g (wi g λz=>hg ?_);show(if g=f then some u else mA g)=none
 rw[A0J q];exact z
theorem Inv.made (I:Inv X pins σ H s):Inv X pins σ (upd (upd H s.heap.objs.size (.own (s.heap.objs.size+1))) (s.heap.objs.size+1) (.ins C s.heap.objs.size []))
  {s with heap:=(s.heap.push W.emptyDict).push (W.instObj C s.heap.objs.size)}:=by
 have e1:(s.heap.push W.emptyDict).get? s.heap.objs.size=some W.emptyDict:=A0D s.heap rfl
 have e2:((s.heap.push W.emptyDict).push (W.instObj C s.heap.objs.size)).get? (s.heap.objs.size+1)=some (W.instObj C s.heap.objs.size):=by have:=A0D (s.heap.push W.emptyDict) (o:=W.instObj C s.heap.objs.size) rfl;rwa[A1U] at this
 have e3:(s.heap.push W.emptyDict).Ns s.heap.objs.size (λ_=>none):=⟨W.emptyDict,#[],_,e1,rfl,(λe he=>absurd he (by simp)),λ_=>rfl⟩;have I1:=I.laid (a:=s.heap.objs.size) (o:=.own (s.heap.objs.size+1)) (h':=s.heap.push W.emptyDict) (t':=s.toks) (λb u q=>A01 _ q) (A07 _) ⟨_,e1⟩;refine I1.laid (a:=s.heap.objs.size+1) (o:=.ins C s.heap.objs.size []) (t':=s.toks) (λb u q=>A01 _ q) (Nat.le_of_eq (A1U _ _)) ?_;have ne:s.heap.objs.size≠s.heap.objs.size+1:=A0K (A32 _);refine⟨by rw[Ah ne,A9],A3G _,ne,e2,λ_=>none,(Heap.Ns1.of_empty e3).at λo q=>A01 _ q,λ_=>A1J,λy hy=>absurd rfl hy⟩
theorem Y4 {prog:Program}{w:World}{env:Env}{e:Expr}{f:Str}{pos:Pos}{s:Shared}{Q:Value->Shared->Prop}(hb:attributeBase e f env (eval e env)=eval e env)
  (h:wpAny (model prog w) A (eval e env) (λo s₁=>wpAny (model prog w) A (getAttr o f true) Q E s₁) E s):wpAny (model prog w) A (eval (.Attribute e f pos) env) Q E s:=
 Attribute_any_ h (by rw[arm_eval_Attribute,hb])
end
section
variable {X:Cx}{o e value:Expr}{f:Str}{pos pos' tpos:Pos}{ta tv:TE}
end
section
variable {X:Cx}{pins:List (Addr×Obj)}{σ:St}{H:Hp}{s:Shared}{A:Around}{E:Value->Shared->Prop}{Q:Value->Shared->Prop}{c:Value}{b:Bool}
inductive TyOf (K:W.Frag)(H:Hp):V->Value->Prop where
 |non:TyOf K H .non (.type "NoneType")
 |bl (x:Bool):TyOf K H (.bl x) (.type "bool")
 |int (i:Int):TyOf K H (.int i) (.type "int")
 |str (x:Str):TyOf K H (.str x) (.type "str")
 |flt (x:UInt64):TyOf K H (.flt x) (.type "float")
 |lst {a:Addr} {xs:List V} (e:H a=some (.lst xs)):TyOf K H (.ref a) (.type "list")
 |frz {a:Addr} {o:Obj} {xs:List V} (e:H a=some (.frz o (.lst xs))):TyOf K H (.ref a) (.type "list")
 |tup {a:Addr} {xs:List V} (e:H a=some (.tup xs)):TyOf K H (.ref a) (.type "tuple")
 |dK {a:Addr} {kvs:List (Key×V)} (e:H a=some (.dK kvs)):TyOf K H (.ref a) (.type "dict")
 |dT {a:Addr} {kvs:List (List Key×V)} (e:H a=some (.dT kvs)):TyOf K H (.ref a) (.type "dict")
 |ins {a C dx:Addr} {fs:List (Str×V)} (e:H a=some (.ins C dx fs)) (cl:Cls K C) (ha:W.findIn K (.ref C) "__class__" = some (some (.builtin "object.__class__")))
   (hn:W.specialIn K (.builtin "object.__class__") "__get__" = some (some (.builtin "getset_descriptor.__get__"))) (htk:W.takesIn K (.builtin "object.__class__")=some true)
   (hm:W.mroIn K C (.type "object")=some true):TyOf K H (.ref a) (.ref C)
theorem Sq {x:V}{u t:Value}(I:Inv X pins σ H s)(rx:RelV x u)(ty:TyOf X.K H x t)(e:W.kitOne X.K t c=some b)(h:∀ tk,Q (.bool b) {s with toks:=tk}) :
  wpAny (model X.prog X.w) A (call (.builtin "isinstance") [u,c]) Q E s:=by
 cases ty with
 |non=>cases (show u=Value.none from rx);exact A1E W.kitx_none I.kIn A1J e (λz=>nomatch z) h
 |bl y=>cases (show u=Value.bool y from rx);exact A1E W.kitx_bool I.kIn A1J e (λz=>nomatch z) h
 |int i=>obtain⟨t,q⟩:=(show ∃ t,u=Value.int i t from rx);cases q;exact A1E W.kitx_int I.kIn A1J e (λz=>nomatch z) h
 |str y=>obtain⟨t,q⟩:=(show ∃ t,u=Value.str y t from rx);cases q;exact A1E W.kitx_str I.kIn A1J e (λz=>nomatch z) h
 |flt y=>obtain⟨t,q⟩:=(show ∃ t,u=Value.float y t from rx);cases q;exact A1E W.kitx_float I.kIn A1J e (λz=>nomatch z) h
 |@lst a xs ea=>cases (show u=Value.ref a from rx);obtain⟨_,_,n,_,h1⟩:=(show ObjOk X.prog X.w H s.heap a (.lst xs) from I.hok a _ ea);exact A1E A45 I.kIn ⟨_,h1,rfl⟩ e (λz=>nomatch z) h
 |@frz a ob xs ea=>cases (show u=Value.ref a from rx);obtain⟨_,_,_,n,_,h1⟩:=(show ObjOk X.prog X.w H s.heap a (.frz ob (.lst xs)) from I.hok a _ ea);exact A1E A45 I.kIn ⟨_,h1,rfl⟩ e (λz=>nomatch z) h
 |@tup a xs ea=>cases (show u=Value.ref a from rx);obtain⟨_,_,_,p⟩:=(show ObjOk X.prog X.w H s.heap a (.tup xs) from I.hok a _ ea);obtain⟨o,h1,h2,_⟩:=p;exact A1E A5B I.kIn ⟨o,h1,h2⟩ e (λz=>nomatch z) h
 |@dK a kvs ea=>cases (show u=Value.ref a from rx);obtain⟨_,_,vs,_,p⟩:=(show ObjOk X.prog X.w H s.heap a (.dK kvs) from I.hok a _ ea);obtain⟨o,es,ep,h1,h2,_⟩:=p;exact A1E W.kitx_dict I.kIn ⟨o,h1,h2.1⟩ e (λz=>nomatch z) h
 |@dT a kvs ea=>cases (show u=Value.ref a from rx);obtain⟨_,_,xs,_,o,es,ep,h1,h2,_⟩:=(show ObjOk X.prog X.w H s.heap a (.dT kvs) from I.hok a _ ea);exact A1E W.kitx_dict I.kIn ⟨o,h1,h2.1⟩ e (λz=>nomatch z) h
 |@ins a C dx fs ea cl ha hn htk hm=>cases (show u=Value.ref a from rx);obtain⟨mA,O,_⟩:=Rk I.hok ea;obtain⟨od,J,_⟩:=O.look;exact A1E (W.kitx_own (cl.get _) cl.hd ha hn htk hm) I.kIn J e (λz=>nomatch z) h
end
structure Room (k:Nat)(A:Around):Prop where
 hd:A.handled=none
 dp:A.depth+3*k+5<recursionLimit
 un:A.units+16*k+200<cLine
 gd:A.guards=some []
theorem Room.mono {j k:Nat}{A:Around}(r:Room k A)(h:j<=k):Room j A:=⟨r.hd,by have:=r.dp;omega,by have:=r.un;omega,r.gd⟩
theorem Room.deeper {k:Nat}{A:Around}(r:Room (k+1) A)(env:Env):Room k (A.deeper env):=
 ⟨r.hd,by have:=r.dp;show A.depth+1+3*k+5<_;omega,by have:=r.un;show A.units+3+16*k+200<_;omega,r.gd⟩
theorem Xc {A:Around}{C:Addr}{us:List Value}{kw:List (Str×Value)}:(A.under (.builtin "type.__call__" ⟨.ref C :: us,kw⟩)).depth=A.depth+1:=by first | rfl | simp[Around.under,Code.weight,Code.isCreation,Code.isGuard,Code.isCaller,Code.frames,Code.isFrame,guardIds]
theorem Xk {A:Around}{C:Addr}{us:List Value}{kw:List (Str×Value)}:(A.under (.builtin "type.__call__" ⟨.ref C :: us,kw⟩)).units=A.units+1:=by first | rfl | simp[Around.under,Code.cUnits,Code.frames,Code.isFrame]
theorem Room.make {k:Nat}{A:Around}(r:Room (k+1) A)(C:Addr)(us:List Value)(kw:List (Str×Value)):Room k (A.under (.builtin "type.__call__" ⟨.ref C :: us,kw⟩)):=
 ⟨r.hd,by have:=r.dp;rw[Xc];omega,by have:=r.un;rw[Xk];omega,(by first | exact r.gd | (simpa[Around.under,Code.isGuard,guardIds,pushGuards] using r.gd))⟩
theorem Room.depth {k:Nat}{A:Around}(r:Room k A):A.depth<recursionLimit:=by have:=r.dp;omega
theorem Room.units {k:Nat}{A:Around}(r:Room k A):A.units+64<cLine:=by have:=r.un;omega
def ar4:TA:=λ_ H Q=>Q [] H
def ag4 (ta:TE)(tr:TA):TA:=fun σ H Q=>ta σ H λx H1=>tr σ H1 λxs H2=>Q (x :: xs) H2
section
variable {X:Cx}{e:Expr}{es:List Expr}{te:TE}{t:TA}{pos:Pos}
theorem A2:PA X [] ar4:=λ_ _ _ _ H Q I h=>A3H ⟨[],H,I,.nil,h⟩
theorem A1 (ha:PE X e te)(hr:PA X es t)(hs:starEach (e :: es) X.env=(false,eval e X.env) :: starEach es X.env:=by ac_nf):PA X (e :: es) (ag4 te t):=by intro pos pins s σ H Q I h;rw[hs];show wpAny _ _ (spliced ((false,eval e X.env) :: backTo pos (starEach es X.env))) _ _ s;refine A2N (thn (ha pins s σ H _ I h) λu s1 ⟨x,H1,I1,r1,q1⟩=>?_);exact thn (hr pos pins s1 σ H1 _ I1 q1) λus s2 ⟨xs,H2,I2,r2,q2⟩=>⟨x :: xs,H2,I2,.cons r1 r2,q2⟩
def aR7 (t:TA):TE:=fun σ H Q=>t σ H λxs H1=>xs.length<=sizeLine/\∀ p,H1 p=none->Q (.ref p) (upd H1 p (.tup xs))
def aQ7 (t:TA):TE:=fun σ H Q=>t σ H λxs H1=>xs.length<=sizeLine/\∀ p,H1 p=none->Q (.ref p) (upd H1 p (.lst xs))
theorem B0 {x1}(h:PA X es t):PE X (.Tuple es x1 pos) (aR7 t):=by intro pins s σ H Q I hq;refine wpAny_Tuple_spliced (thn (h pos pins s σ H _ I hq) λus s1 ⟨xs,H1,I1,r,z,q⟩=>⟨by rw[<- r.length];exact z,?_⟩);have hf:H1 s1.heap.objs.size=none:=I1.hok.fresh (A07 _);refine⟨.ref s1.heap.objs.size,upd H1 s1.heap.objs.size (.tup xs),I1.laid (t':=s1.toks) (λb u e=>A01 _ e) (A07 _) ?_,rfl,q _ hf⟩;exact⟨z,us,r,⟨_,A0D _ rfl,rfl,⟨_,rfl⟩,rfl⟩⟩
theorem Bf (h:PA X es t):PE X (.List es pos) (aQ7 t):=by intro pins s σ H Q I hq;refine wpAny_List_spliced (thn (h pos pins s σ H _ I hq) λus s1 ⟨xs,H1,I1,r,z,q⟩=>⟨by rw[<- r.length];exact z,?_⟩);have hf:H1 s1.heap.objs.size=none:=I1.hok.fresh (A07 _);refine⟨.ref s1.heap.objs.size,upd H1 s1.heap.objs.size (.lst xs),I1.laid (t':=s1.toks) (λb u e=>A01 _ e) (A07 _) ?_,rfl,q _ hf⟩;exact⟨z,us,0,r,A0D _ rfl⟩
end
abbrev Sp:=List V->Hp->VK->XK->Prop
abbrev CXT:=List Env->Hp->Shared->XK->Value->Shared->Prop
structure Env0 (P:Program)(w:World)(K:W.Frag)(mg:Str->Option Value)(base:Heap)(A:Around)(outer:List Env)(s:Shared)(H:Hp):Prop where
 frames:A.frames=some outer
 mod:Mod K mg base
 bs:∀ b o,base.get? b=some o->s.heap.get? b=some o/\H b=none
 bsz:base.objs.size<=s.heap.objs.size
 funs:s.heap.FunFrames base outer
 frf:∀ b∈frs outer,H b=none
 hok:HOk P w H s.heap
 bare:AllBare s.gens
def CE (outer:List Env)(P:Program)(w:World)(H:Hp)(s:Shared)(Q:VK)(u:Value)(s':Shared):Prop:=
 ∃ v H',s'.os=s.os/\AllBare s'.gens/\Un (frs outer) [] H H' s.heap s'.heap/\HOk P w H' s'.heap/\RelV v u/\Q v H'
def CR (CX:CXT)(outer:List Env)(P:Program)(w:World)(H:Hp)(s:Shared)(Q:VK)(E:XK)(r:Result)(s':Shared):Prop:=
 match r with
 |.ok (.ret u)=>CE outer P w H s Q u s'
 |.ok _=>False
 |.error e=>CX outer H s E e s'
structure FnOk (P:Program)(w:World)(K:W.Frag)(mg:Str->Option Value)(base:Heap)(CX:CXT)(k:Nat)(f:Addr)(fd:FuncData)(ps:List Str)(sp:Sp):Prop where
 len:∀ vs H Q E,sp vs H Q E->vs.length=ps.length
 run:∀(A:Around) (outer:List Env) (s:Shared) (H:Hp) (args:Args) (us:List Value) (vs:List V) (Q:VK) (E:XK),Room k A->Env0 P w K mg base A outer s H->BindsTo s fd args (ps.zip us)->Vals vs us->sp vs H Q E ->
  codeAny (model P w) A (.call (.ref f) args) (CR CX outer P w H s Q E) s
theorem Env0.make {P:Program}{w:World}{K:W.Frag}{mg:Str->Option Value}{base:Heap}{A:Around}{outer:List Env}{s:Shared}{H:Hp}(e:Env0 P w K mg base A outer s H)(C:Addr)(us:List Value)(kw:List (Str×Value)) :
  Env0 P w K mg base (A.under (.builtin "type.__call__" ⟨.ref C :: us,kw⟩)) outer s H:=⟨by first | exact e.frames | (simpa[Around.under,Code.envs,Code.isFrame,pushEnvs] using e.frames),e.mod,e.bs,e.bsz,e.funs,e.frf,e.hok,e.bare⟩
section
variable {X:Cx}{pins:List (Addr×Obj)}{σ:St}{H:Hp}{s s':Shared}
theorem Inv.env0 (I:Inv X pins σ H s):Env0 X.prog X.w X.K X.mg X.base X.A X.stack s H:=
 ⟨I.ok.frames,I.ok.mod,I.bs,A0L I.ok.bsz I.sz,I.stack,I.stkFree,I.hok,I.bare⟩
theorem Inv.after {Q:VK}{u:Value}(I:Inv X pins σ H s)(h:CE X.stack X.prog X.w H s Q u s'):EP X pins σ Q u s':=by obtain⟨v,H',os,bare,un,hok,r,q⟩:=h;obtain⟨hh,g,d,t,os'⟩:=s';obtain rfl:os'=s.os:=os;exact⟨v,H',I.call (h':=hh) (g':=g) (d':=d) (t':=t) (ch:=[]) un hok bare (λb z=>absurd z (by simp)),r,q⟩
end
def a81 (sp:Sp)(dvs:List V)(E:XK)(t:TA):TE:=fun σ H Q=>t σ H λvs H1=>sp (vs++dvs) H1 Q E
def Wt (C:Addr)(m:Str)(sp:Sp)(dvs:List V)(E:XK)(ta:TE)(t:TA):TE:=fun σ H Q=>ta σ H λx H1=>∃ a dx fs,x = .ref a/\H1 a=some (.ins C dx fs)/\fs.lookup m=none /\
 t σ H1 λvs H2=>sp (x :: (vs++dvs)) H2 Q E
def aw9 (C:Addr)(sp:Sp)(dvs:List V)(E:XK)(t:TA):TE:=fun σ H Q=>t σ H λvs H1=>∀ x dx,H1 x=none->H1 dx=none->dx≠x ->
 sp (.ref x :: (vs++dvs)) (upd (upd H1 dx (.own x)) x (.ins C dx [])) (λv H2=>v = .non/\Q (.ref x) H2) E
def Binds (K:W.Frag)(fd:FuncData)(ps:List Str)(ds:List Value):Prop:=
 ∀(s:Shared) (us:List Value),K.In s.heap->(us++ds).length=ps.length->BindsTo s fd ⟨us,[]⟩ (ps.zip (us++ds))
theorem Binds.all {K:W.Frag}{fd:FuncData}{ps:List Str}(h:∀ us:List Value,us.length=ps.length->bindArgs fd ⟨us,[]⟩=pure (ps.zip us)):Binds K fd ps []:=λs us _ hl=>by rw[A22] at hl ⊢;exact .of_eq (h us hl)
def Gh (CX:CXT)(X:Cx)(E:XK):Prop:=∀(pins:List (Addr×Obj)) (σ:St) (H:Hp) (s:Shared) (e:Value) (s':Shared),Inv X pins σ H s->CX X.stack H s E e s'->X.xe e s'
section
variable {X:Cx}{CX:CXT}{k:Nat}{f C:Addr}{fd:FuncData}{ps:List Str}{sp:Sp}{dvs:List V}{ds:List Value}{E:XK}{x m:Str}{p pos apos:Pos}{e o:Expr}{es:List Expr}{ta:TE}{t:TA}
theorem Z1 {pins:List (Addr×Obj)}{σ:St}{H:Hp}{s:Shared}{Q:VK}{us:List Value}{vs:List V}(F:FnOk X.prog X.w X.K X.mg X.base CX k f fd ps sp)(hr:Room k X.A)(hb:Binds X.K fd ps ds)(hd:Vals dvs ds)(hx:Gh CX X E)
  (I:Inv X pins σ H s) (r:Vals vs us) (h:sp (vs++dvs) H Q E):wpAny (model X.prog X.w) X.A (call (.ref f) us) (EP X pins σ Q) X.xe s:=by
 have r2:Vals (vs++dvs) (us++ds):=r.append hd;have hl:(us++ds).length=ps.length:=by rw[<- r2.length];exact F.len _ _ _ _ h
 refine A3I (A34 (F.run X.A X.stack s H ⟨us,[]⟩ (us++ds) (vs++dvs) Q E hr I.env0 (hb s us I.kIn hl) r2 h) λr s' hq=>?_)
 cases r with
 |error e=>exact hx pins σ H s e s' I hq
 |ok fl=>
   cases fl with
   |ret u=>exact I.after hq
   |next=>exact False.elim hq
   |brk=>exact False.elim hq
   |cont=>exact False.elim hq
theorem Ye (F:FnOk X.prog X.w X.K X.mg X.base CX k f fd ps sp)(hr:Room k X.A)(hg:Gl X x)(hm:X.mg x=some (.ref f))(hk:W.keepIn X.K (.ref f)=true)(hb:Binds X.K fd ps ds)(hd:Vals dvs ds)(hx:Gh CX X E)
  (ha:PA X (e :: es) t) (hdb:(x==("__debug__":Str))=false:=by decide) (he:starEach (e :: es) X.env=(false,eval e X.env) :: starEach es X.env:=by ac_nf) (hpl:(backTo pos (starEach es X.env)).any (·.1)=false:=by ac_nf) :
  PE X (.Call (.Name x p) (e :: es) [] pos) (a81 sp dvs E t):=by
 intro pins s σ H Q I h;refine A1H (Jv I hg hm ?_ hdb);refine A2O (h₀:=X.base) I.ok.mod.kin hk (thn (ha pos pins s σ H _ I h) λus s1 ⟨vs,H1,I1,r,q⟩=>⟨I1.kIn,?_⟩) he hpl;exact Z1 F hr hb hd hx I1 r q
theorem a52 {pl:Sem Bool}(he:PE X o ta)(c:Cls X.K C)(hm:ax4 X.K C m f)(F:FnOk X.prog X.w X.K X.mg X.base CX k f fd ps sp)(hr:Room k X.A)(hb:Binds X.K fd ps ds)(hd:Vals dvs ds)(hx:Gh CX X E)(ha:PA X (e :: es) t)
  (hst:starEach (e :: es) X.env=(false,eval e X.env) :: starEach es X.env:=by ac_nf) (hpl:(backTo pos (starEach es X.env)).any (·.1)=false:=by ac_nf)
  (ht:eval (.Call (.Attribute o m apos) (e :: es) [] pos) X.env=(do
   let ov <- eval o X.env
   standAt apos.atName
   let (f,first) <- holding [ov] (getMethod ov m pl)
   callWith pos f first (backTo pos (starEach (e :: es) X.env)) (backToKw pos (keywordEach [] X.env))):=by ac_nf) :
  PE X (.Call (.Attribute o m apos) (e :: es) [] pos) (Wt C m sp dvs E ta t):=by
 intro pins s σ H Q I h;refine W.methodCall_KW (pl:=pl) (thn (he pins s σ H _ I h) λu s1 ⟨x,H1,I1,rx,a,dx,fs,ex,ea,l,q⟩=>?_) ht;subst ex;obtain rfl:u=Value.ref a:=rx;refine Ps I1 ea c hm l ?_;refine A2O (first:=[.ref a]) (h₀:=X.base) I.ok.mod.kin hm.kp (thn (ha pos pins s1 σ H1 _ I1 q) λus s2 ⟨vs,H2,I2,r,q2⟩=>⟨I2.kIn,?_⟩) hst hpl
 exact Z1 (us:=.ref a :: us) (vs:=.ref a :: vs) F hr hb hd hx I2 (.cons rfl r) q2
theorem W0 {pl:Sem Bool}(he:PE X o ta)(c:Cls X.K C)(hm:ax4 X.K C m f)(F:FnOk X.prog X.w X.K X.mg X.base CX k f fd ps sp)(hr:Room k X.A)(hb:Binds X.K fd ps ds)(hd:Vals dvs ds)(hx:Gh CX X E)
  (ht:eval (.Call (.Attribute o m apos) [] [] pos) X.env=(do
   let ov <- eval o X.env
   standAt apos.atName
   let (f,first) <- holding [ov] (getMethod ov m pl)
   callWith pos f first (backTo pos (starEach [] X.env)) (backToKw pos (keywordEach [] X.env))):=by ac_nf) :
  PE X (.Call (.Attribute o m apos) [] [] pos) (Wt C m sp dvs E ta ar4):=by
 intro pins s σ H Q I h;refine W.methodCall_KW (pl:=pl) (thn (he pins s σ H _ I h) λu s1 ⟨x,H1,I1,rx,a,dx,fs,ex,ea,l,q⟩=>?_) ht;subst ex;obtain rfl:u=Value.ref a:=rx;refine Ps I1 ea c hm l ?_;exact W.callWith_K0 (first:=[.ref a]) I1.kIn hm.kp (Z1 (us:=[.ref a]) (vs:=[.ref a]) F hr hb hd hx I1 (.cons rfl .nil) q)
structure Mk (K:W.Frag)(C f:Addr):Prop where
 makes:W.makesIn K C=true
 init:W.findIn K (.ref C) "__init__" = some (some (.ref f))
 fn:W.isFn K (.ref f)=true
 kp:W.keepIn K (.ref C)=true
theorem ad9 {pins:List (Addr×Obj)}{σ:St}{H:Hp}{s:Shared}{Q:VK}{us:List Value}{vs:List V}(M:Mk X.K C f)(F:FnOk X.prog X.w X.K X.mg X.base CX k f fd ps sp)(hr:Room (k+1) X.A)(hb:Binds X.K fd ps ds)(hd:Vals dvs ds)
  (hx:Gh CX X E) (I:Inv X pins σ H s) (r:Vals vs us)
  (h:∀ x dx,H x=none->H dx=none->dx≠x->sp (.ref x :: (vs++dvs)) (upd (upd H dx (.own x)) x (.ins C dx [])) (λv H2=>v = .non/\Q (.ref x) H2) E) :
  wpAny (model X.prog X.w) X.A (call (.ref C) us) (EP X pins σ Q) X.xe s:=by
 have hq:=h (s.heap.objs.size+1) s.heap.objs.size (I.hok.fresh (A2H _)) (I.hok.fresh (A07 _)) (A0K (A32 _));have I2:=Inv.made (C:=C) I;have r2:Vals (V.ref (s.heap.objs.size+1) :: (vs++dvs)) (Value.ref (s.heap.objs.size+1) :: (us++ds)):=.cons rfl (r.append hd)
 have hl:(Value.ref (s.heap.objs.size+1) :: us++ds).length=ps.length:=by have e:=r2.length;rw[F.len _ _ _ _ hq] at e;exact e.symm
 refine A3I (ac5 (f:=f) I.kIn M.makes M.init (A24.mp M.fn) (A34 (F.run _ X.stack _ _ ⟨Value.ref (s.heap.objs.size+1) :: us,[]⟩ (Value.ref (s.heap.objs.size+1) :: (us++ds)) _ _ E (hr.make C us [])
  (I2.env0.make C us []) (hb _ (Value.ref (s.heap.objs.size+1) :: us) I2.kIn hl) r2 hq) λr s' hq'=>?_))
 cases r with
 |error e=>exact hx pins σ _ _ e s' I2 hq'
 |ok fl=>
   cases fl with
   |ret u=>obtain⟨v,H',I3,rv,ev,q3⟩:=I2.after hq';subst ev;exact⟨rv,⟨V.ref (s.heap.objs.size+1),H',I3,rfl,q3⟩⟩
   |next=>exact False.elim hq'
   |brk=>exact False.elim hq'
   |cont=>exact False.elim hq'
theorem Y8 (M:Mk X.K C f)(F:FnOk X.prog X.w X.K X.mg X.base CX k f fd ps sp)(hr:Room (k+1) X.A)(hg:Gl X x)(hm:X.mg x=some (.ref C))(hb:Binds X.K fd ps ds)(hd:Vals dvs ds)(hx:Gh CX X E)
  (ha:PA X (e :: es) t) (hdb:(x==("__debug__":Str))=false:=by decide) (he:starEach (e :: es) X.env=(false,eval e X.env) :: starEach es X.env:=by ac_nf) (hpl:(backTo pos (starEach es X.env)).any (·.1)=false:=by ac_nf) :
  PE X (.Call (.Name x p) (e :: es) [] pos) (aw9 C sp dvs E t):=by
 intro pins s σ H Q I h;refine A1H (Jv I hg hm ?_ hdb);refine A2O (h₀:=X.base) I.ok.mod.kin M.kp (thn (ha pos pins s σ H _ I h) λus s1 ⟨vs,H1,I1,r,q⟩=>⟨I1.kIn,?_⟩) he hpl;exact ad9 M F hr hb hd hx I1 r q
end
section
variable {X:Cx}{CX:CXT}{k:Nat}{f C:Addr}{fd:FuncData}{ps ks:List Str}{sp:Sp}{E:XK}{x m:Str}{p pos apos kpos:Pos}{e o:Expr}{es:List Expr}{kws:List Keyword}{te ta:TE}{t tk:TA}{nm:Option Str}
variable {g:List Value->List Value->List Value}{gV:List V->List V->List V}
end
structure Ag (N P:List Str)(sc:Scope):Prop where
 kind:sc.kind = .function
 co:sc.isCoroutine=false
 gen:sc.isGenerator=false
 nd:N.Nodup
 pre:N.take P.length=P
 par:∀ x∈P,sc.names.lookup x=some .local\/sc.names.lookup x=some .cell
 nofree:∀ y∈sc.names,y.2 ≠ .free
theorem Sj {kindOf:Str->Option NameKind}{x:Str}:∀ {binds:List (Str×Value)} {m:Str->Option Value},(∀ v,(x,v)∉binds)->bindL kindOf binds m x=m x
 | [],_,_=>rfl
 | (n,v) :: r,m,h=>by
   unfold bindL;rw[Sj λw hw=>h w (A0B _ hw)]
   split
   . have:x≠n:=by rintro rfl;exact h v A0M
     simp[this]
   rfl
theorem Tk {kindOf:Str->Option NameKind}{x:Str}:∀ {binds:List (Str×Value)} {m:Str->Option Value},(∀ v,(x,v)∉binds)->bindC kindOf binds m x=m x
 | [],_,_=>rfl
 | (n,v) :: r,m,h=>by
   unfold bindC;rw[Tk λw hw=>h w (A0B _ hw)]
   split
   . rfl
   have:x≠n:=by rintro rfl;exact h v A0M
   simp[this]
theorem Tj {kindOf:Str->Option NameKind} {x:Str} {v:Value}:∀ {P:List Str} {vs:List Value} {i:Nat} {m:Str->Option Value},P.Nodup->P[i]? = some x->vs[i]? = some v->kindOf x=some .local ->
  bindL kindOf (P.zip vs) m x=some v
 | [],_,_,_,_,h,_,_=>by simp at h
 |_ :: _,[],_,_,_,_,h,_=>by simp at h
 |p :: P,w :: vs,0,m,nd,h1,h2,hk=>by simp at h1 h2;subst h1;subst h2;show bindL kindOf ((p,w) :: P.zip vs) m p=_;unfold bindL;rw[Sj λv hv=>(A0P.mp nd).1 (A35 hv).1,A0R hk];simp
 |p :: P,w :: vs,i+1,m,nd,h1,h2,hk=>by show bindL kindOf ((p,w) :: P.zip vs) m x=_;unfold bindL;exact Tj (i:=i) (List.nodup_cons.mp nd).2 (by simpa using h1) (by simpa using h2) hk
theorem T6 {kindOf:Str->Option NameKind} {x:Str} {v:Value}:∀ {P:List Str} {vs:List Value} {i:Nat} {m:Str->Option Value},P.Nodup->P[i]? = some x->vs[i]? = some v->kindOf x≠some .local ->
  bindC kindOf (P.zip vs) m x=some v
 | [],_,_,_,_,h,_,_=>by simp at h
 |_ :: _,[],_,_,_,_,h,_=>by simp at h
 |p :: P,w :: vs,0,m,nd,h1,h2,hk=>by simp at h1 h2;subst h1;subst h2;show bindC kindOf ((p,w) :: P.zip vs) m p=_;unfold bindC;rw[Tk λv hv=>(A0P.mp nd).1 (A35 hv).1,A0J hk];simp
 |p :: P,w :: vs,i+1,m,nd,h1,h2,hk=>by show bindC kindOf ((p,w) :: P.zip vs) m x=_;unfold bindC;exact T6 (i:=i) (List.nodup_cons.mp nd).2 (by simpa using h1) (by simpa using h2) hk
def start (N:List Str)(vs:List V):St:=vs.map some++List.replicate (N.length-vs.length) none
def Ul (CX:CXT)(P:Program)(w:World)(K:W.Frag)(mg:Str->Option Value)(base:Heap)(N:List Str)(qual:Str)(scope:Scope)(f:Addr)(cd:Value)(A:Around)(outer:List Env)(s:Shared)(H:Hp)(E:XK):Cx where
 prog:=P
 w:=w
 K:=K
 mg:=mg
 base:=base
 A:=A.deeper (envOfC qual scope s.heap.objs.size f cd)
 N:=N
 s₀:=s
 H₀:=H
 env:=envOfC qual scope s.heap.objs.size f cd
 outer:=outer
 stack:=envOfC qual scope s.heap.objs.size f cd :: outer
 ex:=[]
 calm:=true
 fn:=λ_=>true
 pn:=[]
 xe:=λe s'=>wpAny (model P w) (A.deeper (envOfC qual scope s.heap.objs.size f cd)) (leaving (envOfC qual scope s.heap.objs.size f cd) e) (λ_ s''=>CX outer H s E e s'') (λe' s''=>CX outer H s E e' s'') s'
theorem Vq {sc:Scope}{n:Nat}{x:Str}(h:sc.names.lookup x=some .cell):∃ c,(cellsFrom n sc.names []).lookup x=some c:=by have q:=A4I sc.names n [] (.inl h);exact Option.isSome_iff_exists.mp q
theorem Rq {CX:CXT}{P:Program}{w:World}{K:W.Frag}{mg:Str->Option Value}{base:Heap}{N ps:List Str}{qual:Str}{scope:Scope}{f:Addr}{cd:Value}{A:Around}{outer:List Env}{s s1:Shared}{H:Hp}{E:XK}{us:List Value}{vs:List V}
  (S:Ag N ps scope) (hd:A.handled=none) (e0:Env0 P w K mg base A outer s H) (hl:vs.length=ps.length) (r:Vals vs us)
  (x:InCallC s s.heap.objs.size (bindL (envOfC qual scope s.heap.objs.size f cd).kindOf (ps.zip us) λ_=>none) (cellsFrom (s.heap.objs.size+1) scope.names []) (bindC (envOfC qual scope s.heap.objs.size f cd).kindOf (ps.zip us) λ_=>none) s1) :
  Inv (Ul CX P w K mg base N qual scope f cd A outer s H E) [] (start N vs) H s1:=by
 have hpl:ps.length<=N.length:=by have:=congrArg List.length S.pre;rw[A14] at this;omega
 obtain⟨h1,tk,rfl,hk⟩:=x.done;have noA:∀ b:Addr,b∉(Ul CX P w K mg base N qual scope f cd A outer s H E).ex:=λb z=>absurd (show b∈([]:List Addr) from z) (by simp)
 refine⟨⟨e0.mod,S.kind,rfl,rfl,A07 _,λy z c h1 h2=>?_,λy hy=>?_,λy c _ h=>?_,λ_=>hd,Around.frames_deeper e0.frames,.inr ⟨rfl,rfl⟩,λb z=>absurd z (noA b),e0.bs,e0.bsz,λb _ _=>noA b,λb z=>absurd z (noA b),e0.funs,e0.frf⟩,
  rfl,e0.bare,Un.kept hk,⟨_,x.toInCall.ns,λi y v h1 h2 h3=>?_⟩,λy c h=>⟨_,x.cell y c h⟩,e0.hok.fresh (Nat.le_refl _),λy c h=>?_,λp hp=>absurd (show p∈([]:List (Addr×Obj)) from hp) (by simp),e0.hok.kept hk,?_⟩
 . exact name_of_addr x.apart (A2I h1) (A2I h2)
 . have hy:scope.names.lookup y=some .cell\/scope.names.lookup y=some .free:=hy;rcases hy with hy|hy
   . exact Vq hy
   exact absurd rfl (S.nofree _ (A2I hy))
 . exact A25 (x.above y c (A2I h))
 . have hi:i<vs.length:=by
    unfold start at h2
    by_cases hi:i<vs.length
    . exact hi
    rw[List.getElem?_append_right (by simpa using hi)] at h2;rw[A4B] at h2
    split at h2<;>cases h2
   have ha:vs[i]? = some v:=by
    unfold start at h2;rw[List.getElem?_append_left (by simpa using hi),List.getElem?_map] at h2
    cases e:vs[i]? with
    |none=>rw[e] at h2;cases h2
    |some a=>rw[e] at h2;cases h2;rfl
   obtain⟨u,hu,rv⟩:=r.get ha
   have hp:ps[i]? = some y:=by rw[<- S.pre,List.getElem?_take_of_lt nofun];exact h1
   have ndP:ps.Nodup:=by rw[<- S.pre];exact S.nd.sublist (A46 _ _)
   refine⟨u,rv,?_⟩;rcases S.par y (A04 hp) with k|k
   . exact .inl ⟨k,Tj ndP hp hu k⟩
   obtain⟨c,e⟩:=Vq (n:=s.heap.objs.size+1) k;refine .inr ⟨.inl k,c,e,?_⟩;have q:=x.cell y c e;rw[T6 ndP hp hu (by show scope.names.lookup y≠_;rw[k];decide)] at q;exact q
 . exact e0.hok.fresh (A25 (x.above y c (A2I h)))
 unfold start;show _=N.length;rw[A0T,A02,A26];omega
theorem av9 {CX:CXT}{P:Program}{w:World}{K:W.Frag}{mg:Str->Option Value}{base:Heap}{k:Nat}{f:Addr}{name qual:Str}{params:Arguments}{body:List Stmt}{scope:Scope}{dV kV doc pm cdv ct oc:Value}{an od:Option Addr}
  {osl:Array (Option Value)} {N ps:List Str} {sp:Sp} (lk:K.lookup f=some ⟨oc,od,.func (W.fnOf name qual params body scope dV kV doc pm an cdv ct),osl⟩) (hcd:W.codeIn K cdv qual=true) (S:Ag N ps scope)
  (len:∀ vs H Q E,sp vs H Q E->vs.length=ps.length)
  (hbody:∀(A:Around) (outer:List Env) (s:Shared) (H:Hp) (vs:List V) (Q:VK) (E:XK),Room k (A.deeper (envOfC qual scope s.heap.objs.size f cdv))->sp vs H Q E ->
   ∃ t,PSs (Ul CX P w K mg base N qual scope f cdv A outer s H E) body t/\t {nx:=λ_ H'=>Q .non H',rt:=Q} (start N vs) H) :
  FnOk P w K mg base CX (k+1) f (W.fnOf name qual params body scope dV kV doc pm an cdv ct) ps sp:=by
 refine⟨len,λA outer s H args us vs Q E hr e0 hb r hsp=>?_⟩;have hl:=len _ _ _ _ hsp;have KX:K.In s.heap:=e0.mod.kin.keeps λb o e=>(e0.bs b o e).1;have lim:s.heap.NoLimit:=e0.mod.nolimit.keeps λb o e=>(e0.bs b o e).1
 have hkind:∀ y∈ps.zip us,scope.names.lookup y.1=some .local\/(scope.names.lookup y.1=some .cell/\((cellsFrom (s.heap.objs.size+1) scope.names []).lookup y.1).isSome=true):=λ⟨n,v⟩ hy=>by
  rcases S.par n (A35 hy).1 with q|q
  . exact .inl q
  exact .inr ⟨q,A4I _ _ _ (.inl q)⟩
 refine codeAny_call_function hr.depth (KX _ _ lk) rfl S.co S.gen rfl (W.codeRec_of KX hcd) (hb _ _ _ _ ?_);refine wpAny_newFunctionEnv_cells S.kind hkind λenv he s1 x=>?_;subst he;refine⟨lim.keeps x.toInCall.keep,codeAny_func ?_⟩;obtain⟨t,ht,hq⟩:=hbody A outer s H vs Q E (hr.deeper _) hsp;have I:Inv (Ul CX P w K mg base N qual scope f cdv A outer s H E) [] (start N vs) H s1:=Rq S hr.hd e0 hl r x;refine A1X (ht [] s1 (start N vs) H _ I hq) (λfl s' hs=>?_) λe s' hs=>hs
 have fin:∀ {σ':St} {H':Hp} {v:V} {u:Value},Inv (Ul CX P w K mg base N qual scope f cdv A outer s H E) [] σ' H' s'->RelV v u->Q v H'->CE outer P w H s Q u s':=
  fun {σ' H' v u} J rv q=>⟨v,H',J.os,J.bare,J.base,J.hok,rv,q⟩
 cases fl with
 |ret u=>obtain⟨v,σ',H',J,rv,q⟩:=hs;exact fin J rv q
 |next=>obtain⟨σ',H',J,q⟩:=hs;exact fin (v:=V.non) (u:=Value.none) J rfl q
 |brk=>obtain⟨_,_,_,q⟩:=hs;exact False.elim q
 |cont=>obtain⟨_,_,_,q⟩:=hs;exact False.elim q
section
variable {X:Cx}{x:Str}{p pos:Pos}{e:Expr}{es:List Expr}{t:TA}{id T:String}{r:List V->Hp->VK->Prop}
def tCB (r:List V->Hp->VK->Prop)(t:TA):TE:=fun σ H Q=>t σ H λvs H1=>r vs H1 Q
theorem Ae (hc:CallR X (.builtin id) r)(hg:Gl X x)(hm:X.mg x=none)(hv:bootBuiltins x=some (.builtin id))(ha:PA X (e :: es) t)(hn:x ≠ "__name__":=by decide)(hdb:(x==("__debug__":Str))=false:=by decide)
  (he:starEach (e :: es) X.env=(false,eval e X.env) :: starEach es X.env:=by ac_nf) (hpl:(backTo pos (starEach es X.env)).any (·.1)=false:=by ac_nf):PE X (.Call (.Name x p) (e :: es) [] pos) (tCB r t):=by
 intro pins s σ H Q I h;refine A1H (J9 I hg hm hv ?_ hn hdb);exact A3L (thn (ha pos pins s σ H _ I h) λus s1 ⟨vs,H1,I1,r1,q1⟩=>hc pins s1 σ H1 vs us Q I1 r1 q1) he hpl
theorem As (hc:CallR X (.type T) r)(hg:Gl X x)(hm:X.mg x=none)(hv:bootBuiltins x=some (.type T))(ha:PA X (e :: es) t)(hn:x ≠ "__name__":=by decide)(hdb:(x==("__debug__":Str))=false:=by decide)
  (he:starEach (e :: es) X.env=(false,eval e X.env) :: starEach es X.env:=by ac_nf) (hpl:(backTo pos (starEach es X.env)).any (·.1)=false:=by ac_nf):PE X (.Call (.Name x p) (e :: es) [] pos) (tCB r t):=by
 intro pins s σ H Q I h;refine A1H (J9 I hg hm hv ?_ hn hdb);exact A1K (thn (ha pos pins s σ H _ I h) λus s1 ⟨vs,H1,I1,r1,q1⟩=>hc pins s1 σ H1 vs us Q I1 r1 q1) he hpl
end
end L2
namespace HT
open PySem PyProof.Rows
section
open PySem.SeqAt
open PySem.AutoSeq1 (wpAny_loadPart')
open PySem.MeetsSeq PySem.MeetsSeq2 PySem.MeetsSeq3
end
section
variable {prog:Program}{w:World}{A:Around}{E:Value->Shared->Prop}{s:Shared}
theorem cat_tup {t b:Addr}{vs ws:List Value}{Q:Value->Shared->Prop}(ht:IsTup s.heap t vs.toArray)(hb:IsTup s.heap b ws.toArray)(hv:vs≠[])
  (h1:ws=[]->Q (.ref t) s) (h2:ws≠[]->Q (.ref s.heap.objs.size) {s with heap:=s.heap.push {cls:=.type "tuple",data:=.seq (vs++ws).toArray}})
  (hsz:vs.length+ws.length<=sizeLine):wpAny (model prog w) A (binaryOp .Add (.ref t) (.ref b)) Q E s:=by
 obtain⟨⟨cls,dd,data,sl⟩,ho,hc,n,hd⟩:=id ht;obtain⟨⟨cls2,dd2,data2,sl2⟩,ho2,hc2,n2,hd2⟩:=id hb;simp only at hc hd hc2 hd2;subst hc hd hc2 hd2;have e:vs.toArray++ws.toArray=(vs++ws).toArray:=by simp
 by_cases hw:ws=[]
 . exact concat_meets ⟨_,ho,rfl⟩ ⟨_,ho2,rfl⟩ noFill_tuple_add seq_tuple_add PySem.F.slot_tuple_add PySem.F.entry_tuple_add (PySem.F.args_tuple_add_2 _ _)
    (tuple_addW1 t b vs.toArray ws.toArray n n2 dd dd2 sl sl2 (by simpa using hv) (by simp[hw])) ⟨ho,ho2,h1 hw⟩
 refine concat_meets ⟨_,ho,rfl⟩ ⟨_,ho2,rfl⟩ noFill_tuple_add seq_tuple_add PySem.F.slot_tuple_add PySem.F.entry_tuple_add (PySem.F.args_tuple_add_2 _ _)
  (tuple_addW2 t b vs.toArray ws.toArray n n2 dd dd2 sl sl2 (by simpa using hv) (by simpa using hw) (by rw[List.size_toArray,List.size_toArray];exact hsz)) ⟨ho,ho2,?_⟩
 rw[e];exact h2 hw
def sIx (n d:Nat):Option Int->Nat
 |none=>d
 |some v=>if v<0 then(v+(n:Int)).toNat else min v.toNat n
theorem sIx_none (n d:Nat):sIx n d none=d:=rfl
theorem sIx_nat (n d k:Nat):sIx n d (some (k:Int))=min k n:=by
 show(if(k:Int)<0 then((k:Int)+(n:Int)).toNat else min (k:Int).toNat n)=min k n
 rw [A0J nofun,Int.toNat_natCast]
theorem aC0 (n d:Nat)(hd:d<=n)(o:Option Int):sIx n d o<=n:=by
 cases o with
 |none=>exact hd
 |some v=>
   show(if v<0 then(v+(n:Int)).toNat else min v.toNat n)<=n
   by_cases hv:v<0
   . rw[A0R hv];omega
   rw[A0J hv];exact A3Q _ _
theorem Zq (v:Int)(n d:Nat):(if v<0 then max (v+(n:Int)) 0 else min v (n:Int))=((sIx n d (some v):Nat):Int):=by
 show(if v<0 then max (v+(n:Int)) 0 else min v (n:Int))=(((if v<0 then(v+(n:Int)).toNat else min v.toNat n):Nat):Int)
 by_cases hv:v<0
 . simp only[if_pos hv];omega
 simp only[if_neg hv];omega
theorem Xb (lo hi:Option Int)(n:Nat):Builtin.Slice.sliceAdjust lo hi 1 (n:Int)=(((sIx n 0 lo:Nat):Int),((sIx n n hi:Nat):Int)):=by
 have h1:¬ ((1:Int)<0):=by omega
 unfold Builtin.Slice.sliceAdjust;simp only[h1,if_false];refine Prod.ext ?_ ?_
 . cases lo with
   |none=>rfl
   |some v=>exact Zq v n 0
 cases hi with
 |none=>rfl
 |some v=>exact Zq v n n
theorem Ww (i j:Nat):Builtin.Slice.slicePlaces (i:Int) (j:Int) 1=j-i:=by
 unfold Builtin.Slice.slicePlaces;have h1:(1:Int)>0:=by omega
 simp only[h1,if_true,Int.ediv_one]
 split<;>omega
theorem Qa {v:Value}{o:Option Int}{Q:Option Int->Shared->Prop}(p:IsPart v o)(h:Q o s):wpAny (model prog w) A (Builtin.Slice.slicePartIndex v) Q E s:=by
 cases p with
 |none=>exact slicePart_none h
 |int i t=>exact slicePart_int h
theorem sliceApplied_gen {sl:Addr}{vl vu:Value}{lo hi:Option Int}{n:Nat}{Q:Int×Int×Nat->Shared->Prop}(hs:s.heap.IsSliceOf sl vl vu .none)(pl:IsPart vl lo)(pu:IsPart vu hi)
  (h:Q (((sIx n 0 lo:Nat):Int),1,sIx n n hi-sIx n 0 lo) s):wpAny (model prog w) A (Builtin.Slice.sliceApplied (.ref sl) (pure (n:Int))) Q E s:=by
 obtain⟨os,hos,hcs,hds⟩:=id hs;unfold Builtin.Slice.sliceApplied Builtin.Slice.sliceFields;refine A03 (A03 (A2J hos hds (x:=vl) rfl (A03 (A2J hos hds (x:=vu) rfl (A03 (A2J hos hds (x:=.none) rfl (A09 ?_)))))));refine A03 (slicePart_none ?_);show wpAny _ _ (if((1:Int)==0)=true then _ else _) _ _ s
 rw[A0J ∅];refine A03 (Qa pl (A03 (Qa pu (A03 (A09 ?_)))));show wpAny _ _ (match Builtin.Slice.sliceAdjust lo hi 1 (n:Int) with | (lo,hi)=>pure (lo,(1:Int),Builtin.Slice.slicePlaces lo hi 1)) _ _ s
 rw[Xb lo hi n];show wpAny _ _ (pure (((sIx n 0 lo:Nat):Int),(1:Int),Builtin.Slice.slicePlaces ((sIx n 0 lo:Nat):Int) ((sIx n n hi:Nat):Int) 1)) _ _ s;rw[Ww];exact A09 h
theorem ae9 (xs:Array Value)(i k:Nat):((List.range k).filterMap λ(m:Nat)=>xs[((i:Int)+(m:Int)*1).toNat]?).toArray=((xs.toList.drop i).take k).toArray:=by
 have e:(λ(m:Nat)=>xs[((i:Int)+(m:Int)*1).toNat]?)=λm=>xs[i+m]?:=by
  funext m;have:((i:Int)+(m:Int)*1).toNat=i+m:=by omega
  rw[this]
 rw[e];have:=pick_run xs i k;rw[List.filterMap_map] at this;have e2:((λx=>xs[x]?)∘λx=>i+x)=λm=>xs[i+m]?:=rfl;rw[e2] at this;rw[this]
theorem getItem_tuple_cut {t sl:Addr}{items:Array Value}{vl vu:Value}{lo hi:Option Int}{Q:Value->Shared->Prop}(ht:IsTup s.heap t items)(hs:s.heap.IsSliceOf sl vl vu .none)(pl:IsPart vl lo)(pu:IsPart vu hi)
  (hw:¬ (sIx items.size 0 lo=0/\sIx items.size items.size hi=items.size))
  (h:Q (.ref s.heap.objs.size) {s with heap:=s.heap.push {cls:=.type "tuple",data:=.seq ((items.toList.drop (sIx items.size 0 lo)).take (sIx items.size items.size hi-sIx items.size 0 lo)).toArray}})
  (hsz:items.size<=sizeLine):wpAny (model prog w) A (getItem (.ref t) (.ref sl)) Q E s:=by
 have htake:sizeOk (.seq ((items.toList.drop (sIx items.size 0 lo)).take (sIx items.size items.size hi-sIx items.size 0 lo)).toArray):=by show((items.toList.drop (sIx items.size 0 lo)).take (sIx items.size items.size hi-sIx items.size 0 lo)).toArray.size<=sizeLine;rw[A0U,A14,A1M,A53];omega
 have hj:sIx items.size items.size hi<=items.size:=aC0 _ _ (A07 _) hi;obtain⟨os,hos,hcs,hds⟩:=id hs;have hTs:s.TypeIs (.ref sl) "slice":=⟨os,hos,hcs⟩;unfold getItem
 try with_reducible refine A20 ?_
 first | refine A03 (A09 ?_) | skip
 refine A03 (wpAny_sequenceKey ht.typeIs ∅ ?_)
 refine A03 (A36 (name:=Str.ofString "__getitem__") ht.typeIs A2B
  (A4F A2B ht.typeIs entry_tuple_getitem ?_ (args_tuple_getitem _ _)))
 show wpAny _ _ (Builtin.Tuple.tupleItemsOf (.ref t) >>= _) _ _ s;refine A03 (tupleItemsOf_ ht ?_);refine A03 (A3M hTs ?_);rw[A0R ∅];refine A03 (sliceApplied_gen hs pl pu ?_)
 have hno:¬ ((((sIx items.size 0 lo:Nat):Int)==0&&(1:Int)==1&&(sIx items.size items.size hi-sIx items.size 0 lo)==items.size)=true):=by intro q;rw[A19,A19] at q;have q1:((sIx items.size 0 lo:Nat):Int)=0:=eq_of_beq q.1.1;have q2:sIx items.size items.size hi-sIx items.size 0 lo=items.size:=eq_of_beq q.2;exact hw ⟨by omega,by omega⟩
 show wpAny _ _ (if(((sIx items.size 0 lo:Nat):Int)==0&&(1:Int)==1&&(sIx items.size items.size hi-sIx items.size 0 lo)==items.size)=true then _ else _) _ _ s
 rw[A0J hno,ae9]
 first
  |exact A03 (m:=Builtin.Tuple.tupleExact _) (A2C (A09 ⟨_,rfl,A09 h⟩) htake)
  |exact A03 (m:=Builtin.Tuple.tupleExact _) (A2C (A03 (A09 (A09 ⟨_,rfl,A09 h⟩))) htake)
  |exact A03 (A03 (m:=Builtin.Tuple.tupleExact _) (A2C (A09 (A09 ⟨_,rfl,A09 h⟩)) htake))
  |exact A03 (A03 (m:=Builtin.Tuple.tupleExact _) (A2C (A09 ⟨_,rfl,A09 h⟩) htake))
end
end HT
namespace L2
open PySem PySem.Spec PyProof.Rows
abbrev TO:=St->Hp->(Option Int->Hp->Prop)->Prop
def PO (X:Cx)(e:Option Expr)(t:TO):Prop:=
 ∀(pins:List (Addr×Obj)) (s:Shared) (σ:St) (H:Hp) (Q:Option Int->Hp->Prop),Inv X pins σ H s->t σ H Q ->
  wpAny (model X.prog X.w) X.A (evalPart e X.env) (λu s'=>∃ o H',Inv X pins σ H' s'/\IsPart u o/\Q o H') X.xe s
def a75:TO:=λ_ H Q=>Q none H
def aF1 (t:TE):TO:=fun σ H Q=>t σ H λx H1=>∃ i,x = .int i/\Q (some i) H1
section
variable {X:Cx}{e:Expr}{te:TE}{lo hi:Option Expr}{tl th:TO}{pos p2:Pos}
theorem K3:PO X none a75:=by intro pins s σ H Q I h;rw[evalPart_none];exact A09 ⟨none,H,I,.none,h⟩
theorem Dv (h:PE X e te):PO X (some e) (aF1 te):=by intro pins s σ H Q I hw;rw[evalPart_some];refine thn (h pins s σ H _ I hw) λu s1 ⟨x,H1,I1,r1,q1⟩=>?_;obtain⟨i,rfl,q⟩:=q1;obtain⟨t,rfl⟩:=r1;exact⟨some i,H1,I1,.int i t,q⟩
def SlR (X:Cx)(r:V->Option Int->Option Int->Hp->VK->Prop):Prop:=
 ∀(pins:List (Addr×Obj)) (s:Shared) (σ:St) (H:Hp) (x:V) (v vl vu:Value) (lo hi:Option Int) (sl:Addr) (Q:VK),Inv X pins σ H s->RelV x v->s.heap.IsSliceOf sl vl vu .none->IsPart vl lo->IsPart vu hi->r x lo hi H Q ->
  ∃ T id,typeLookup (.type T) "__getitem__" = pure (some (.builtin id))/\s.TypeIs v T/\wpAny (model X.prog X.w) X.A (getItem v (.ref sl)) (EP X pins σ Q) X.xe s
theorem SlR.or {r r':V->Option Int->Option Int->Hp->VK->Prop}(h:SlR X r)(h':SlR X r'):SlR X (λx lo hi H Q=>r x lo hi H Q\/r' x lo hi H Q):=by
 intro pins s σ H x v vl vu lo hi sl Q I rx hs pl pu q;rcases q with q|q
 . exact h pins s σ H x v vl vu lo hi sl Q I rx hs pl pu q
 exact h' pins s σ H x v vl vu lo hi sl Q I rx hs pl pu q
def tSl (r:V->Option Int->Option Int->Hp->VK->Prop)(te:TE)(tl th:TO):TE:=fun σ H Q=>te σ H λx H1=>tl σ H1 λl H2=>th σ H2 λu H3=>r x l u H3 Q
theorem Ek {r:V->Option Int->Option Int->Hp->VK->Prop}(hr:SlR X r)(he:PE X e te)(hl:PO X lo tl)(hu:PO X hi th):PE X (.Subscript e (.Slice lo hi none p2) pos) (tSl r te tl th):=by
 intro pins s σ H Q I h;refine Subscript_ (thn (he pins s σ H _ I h) λv s1 ⟨x,H1,I1,r1,q1⟩=>?_);refine wpAny_Slice (thn (hl pins s1 σ H1 _ I1 q1) λvl s2 ⟨l,H2,I2,pl,q2⟩=>thn (hu pins s2 σ H2 _ I2 q2) λvu s3 ⟨u,H3,I3,pu,q3⟩=>?_);rw[evalPart_none];refine A09 ?_;have I4:Inv X pins σ H3 {s3 with heap:=s3.heap.push {cls:=.type "slice",data:=.fields #[vl,vu,.none]}}:=I3.kept (t':=s3.toks) λb ob q=>A01 _ q
 obtain⟨T,id,hT,ht,hg⟩:=hr pins {s3 with heap:=s3.heap.push {cls:=.type "slice",data:=.fields #[vl,vu,.none]}} σ H3 x v vl vu l u s3.heap.objs.size Q I4 r1 (Heap.IsSliceOf.new ..) pl pu q3
 show wpAny (model X.prog X.w) X.A (subscriptTail e (.Slice lo hi none p2) v (.ref s3.heap.objs.size)) (EP X pins σ Q) X.xe {s3 with heap:=s3.heap.push {cls:=.type "slice",data:=.fields #[vl,vu,.none]}}
 exact tail_any (ops:=[.ref s3.heap.objs.size,v]) ht hT hg ⋯
def Tp (xs:List V)(lo hi:Option Int):List V:=(xs.drop (HT.sIx xs.length 0 lo)).take (HT.sIx xs.length xs.length hi-HT.sIx xs.length 0 lo)
theorem Nl (xs:List V)(lo hi:Option Int):(Tp xs lo hi).length<=xs.length:=by unfold Tp;rw[A14,A1M];omega
def aR2 (K:W.Frag):V->Option Int->Option Int->Hp->VK->Prop:=λx lo hi H Q=>∃ a xs,x = .ref a/\SqT K H a xs /\
 ¬ (HT.sIx xs.length 0 lo=0/\HT.sIx xs.length xs.length hi=xs.length)/\∀ p,H p=none->Q (.ref p) (upd H p (.tup (Tp xs lo hi)))
theorem sl_tup:SlR X (aR2 X.K):=by
 intro pins s σ H x v vl vu lo hi sl Q I rx hs pl pu h;obtain⟨a,xs,rfl,hx,hw,q⟩:=h
 cases rx;obtain⟨its,r,ht,hz⟩:=I.tuple hx;have hlen:its.toArray.size=xs.length:=by rw[A0U];exact r.length.symm
 refine⟨"tuple",_,PyProof.Rows.slot_tuple_getitem.lookup,ht.typeIs,?_⟩;refine HT.getItem_tuple_cut ht hs pl pu (by rw[hlen];exact hw) ?_ (by rw[hlen];exact hz);rw[hlen];refine⟨.ref s.heap.objs.size,_,I.laid (t':=s.toks) (o:=.tup (Tp xs lo hi)) (λb ob q=>A01 _ q) (A07 _) ?_,rfl,q _ (I.hok.fresh (A07 _))⟩;exact⟨A0L (Nl xs lo hi) hz,_,(r.drop (HT.sIx xs.length 0 lo)).take (HT.sIx xs.length xs.length hi-HT.sIx xs.length 0 lo),IsTupN.new _ _⟩
def aC2 (K:W.Frag):R2:=λx y H Q=>∃ a b xs ys,x = .ref a/\y = .ref b/\SqT K H a xs/\SqT K H b ys/\xs≠[]/\xs.length+ys.length<=sizeLine /\
 (ys=[]->Q (.ref a) H)/\(ys≠[]->∀ p,H p=none->Q (.ref p) (upd H p (.tup (xs++ys))))
theorem Vals.nil_iff {xs:List V}{us:List Value}(r:Vals xs us):us=[]↔xs=[]:=by
 cases r with
 |nil=>simp
 |cons _ _=>simp
theorem op_catT:OpR X (binaryOp .Add) (aC2 X.K):=by
 intro pins s σ H x y v u Q I rx ry h;obtain⟨a,b,xs,ys,rfl,rfl,ha,hb,hx,hz,q1,q2⟩:=h
 cases rx
 cases ry;obtain⟨its,r1,p1,_⟩:=I.tuple ha;obtain⟨its2,r2,p2,_⟩:=I.tuple hb;refine HT.cat_tup p1 p2 (λz=>hx (r1.nil_iff.mp z)) (λz=>⟨.ref a,H,I,rfl,q1 (r2.nil_iff.mp z)⟩) (λz=>?_) (by rw[<- r1.length,<- r2.length];exact hz);refine⟨.ref s.heap.objs.size,_,I.laid (t':=s.toks) (o:=.tup (xs++ys)) (λb ob q=>A01 _ q) (A07 _) ?_,rfl,q2 (λw=>z (r2.nil_iff.mpr w)) _ (I.hok.fresh (A07 _))⟩;exact⟨by rw[A0T];exact hz,_,r1.append r2,IsTupN.new _ _⟩
end
def ixN (n:Nat)(i:Int):Option Nat:=if 0<=i then(if i<n then some i.toNat else none) else if -(n:Int)<=i then some (i+n).toNat else none
def atI {α:Type}(xs:List α)(i:Int):Option α:=(ixN xs.length i).bind λj=>xs[j]?
theorem ax1 {n:Nat}{i:Int}{j:Nat}(h:ixN n i=some j):seqIndex? i n=some j/\j<n /\ -(n:Int)<=i/\i<n:=by
 unfold ixN at h
 by_cases h0:0<=i
 . rw[A0R h0] at h
   by_cases h1:i<n
   . rw[A0R h1] at h;have e:i.toNat=j:=A0O h;exact⟨by rw[seqIndex_of h0 h1,e],by omega,by omega,h1⟩
   rw[A0J h1] at h;cases h
 rw[A0J h0] at h
 by_cases h1:-(n:Int)<=i
 . rw[A0R h1] at h;have e:(i+n).toNat=j:=A0O h;exact⟨by rw[seqIndex_neg nofun h1,e],by omega,h1,by omega⟩
 rw[A0J h1] at h;cases h
theorem Rh {α:Type} {xs:List α} {i:Int} {v:α} (h:atI xs i=some v):∃ j,seqIndex? i xs.length=some j/\xs[j]? = some v/\j<xs.length /\ -(xs.length:Int)<=i/\i<xs.length:=by
 unfold atI at h
 cases e:ixN xs.length i with
 |none=>rw[e] at h;cases h
 |some j=>rw[e] at h;obtain⟨h1,h2,h3,h4⟩:=ax1 e;exact⟨j,h1,h,h2,h3,h4⟩
theorem Dl {α:Type}{xs:List α}{j:Nat}{v:α}(h:xs[j]? = some v):atI xs (j:Int)=some v:=by
 have hj:j<xs.length:=(A00.mp h).1
 have e:ixN xs.length (j:Int)=some j:=by unfold ixN;rw[if_pos nofun,if_pos nofun];simp
 unfold atI;rw[e];exact h
def aq6 (b:Expr):Prop:=∀ o i,subscripted b false o i=operate [o,i] (getItem o i)
def IxR (X:Cx)(r:R2):Prop:=
 ∀(value slice:Expr) (pins:List (Addr×Obj)) (s:Shared) (σ:St) (H:Hp) (x y:V) (v u:Value) (Q:VK),Inv X pins σ H s->RelV x v->RelV y u->r x y H Q ->
  subscripted slice false v u=operate [v,u] (getItem v u)->wpAny (model X.prog X.w) X.A (subscriptTail value slice v u) (EP X pins σ Q) X.xe s
def MtR (X:Cx)(id:String)(r:V->List V->Hp->VK->Prop):Prop:=
 ∀(pins:List (Addr×Obj)) (s:Shared) (σ:St) (H:Hp) (x:V) (xs:List V) (v:Value) (us:List Value) (Q:VK),Inv X pins σ H s->RelV x v->Vals xs us->r x xs H Q ->
  wpAny (model X.prog X.w) X.A (call (.builtin id) (v :: us)) (EP X pins σ Q) X.xe s
section
variable {X:Cx}{a b:Expr}{ta tb:TE}{pos:Pos}
theorem IxR.or {r r':R2}(h:IxR X r)(h':IxR X r'):IxR X (λx y H Q=>r x y H Q\/r' x y H Q):=by
 intro value slice pins s σ H x y v u Q I rx ry q hs;rcases q with q|q
 . exact h value slice pins s σ H x y v u Q I rx ry q hs
 exact h' value slice pins s σ H x y v u Q I rx ry q hs
theorem Ak {r:R2}(hr:IxR X r)(ha:PE X a ta)(hb:PE X b tb)(hs:aq6 b):PE X (.Subscript a b pos) (tOp r ta tb):=by intro pins s σ H Q I h;exact Subscript_ (aN8 ha hb I h λv u s2 x y H2 I2 rx ry q=>hr a b pins s2 σ H2 x y v u Q I2 rx ry q (hs _ _))
def aS6 (K:W.Frag):R2:=λx y H Q=>∃ p xs i v,x = .ref p/\y = .int i/\SqL K H p xs/\atI xs i=some v/\Q v H
def aQ3 (K:W.Frag):R2:=λx y H Q=>∃ p xs i v,x = .ref p/\y = .int i/\SqT K H p xs/\atI xs i=some v/\Q v H
def aR0:R2:=λx y H Q=>∃ z i c,x = .str z/\y = .int i/\z.length<=sizeLine/\atI z.cps.toList i=some c/\Q (.str ⟨#[c]⟩) H
theorem ix_list:IxR X (aS6 X.K):=by
 intro value slice pins s σ H x y v u Q I rx ry h hs;obtain⟨p,xs,i,z,rfl,rfl,hq,he,q⟩:=h
 cases rx;obtain⟨t,rfl⟩:=ry;obtain⟨its,r,pl,hz⟩:=I.list hq;obtain⟨j,h1,h2,h3,h4,h5⟩:=Rh he;obtain⟨w,ew,rw'⟩:=r.get h2;have hl:=r.length;have hn:=Og;have fin:EP X pins σ Q w s:=⟨z,H,I,rw',q⟩
 by_cases h0:0<=i
 . have hj:i.toNat=j:=by rw[seqIndex_of h0 h5] at h1;exact A0O h1
   exact item_listR pl.isList h0 nofun (by rw[hj];simpa using ew) fin hs
 have hj:(i+(its.toArray.size:Int)).toNat=j:=by rw[seqIndex_neg nofun h4] at h1;rw[A0U,<- hl];exact A0O h1
 exact subscriptTail_builtinR (x:=w) pl.isList.typeIs slot_list_getitem.lookup
  (wpAny_getItem_list_neg (Q:=λr s'=>r=w/\EP X pins σ Q r s') pl.isList nofun (by rw[List.size_toArray]<;>omega) nofun (by rw[hj];simpa using ew) ⟨rfl,fin⟩) hs
theorem ix_tup:IxR X (aQ3 X.K):=by
 intro value slice pins s σ H x y v u Q I rx ry h hs;obtain⟨p,xs,i,z,rfl,rfl,hq,he,q⟩:=h
 cases rx;obtain⟨t,rfl⟩:=ry;obtain⟨its,r,pl,hz⟩:=I.tuple hq;obtain⟨j,h1,h2,h3,h4,h5⟩:=Rh he;obtain⟨w,ew,rw'⟩:=r.get h2;have hl:=r.length;have hn:=Og;have fin:EP X pins σ Q w s:=⟨z,H,I,rw',q⟩
 exact subscriptTail_builtinR (x:=w) pl.typeIs slot_tuple_getitem.lookup
  (getItem_tuple (j:=j) (Q:=λr s'=>r=w/\EP X pins σ Q r s') pl nofun nofun (by rw[List.size_toArray,<- hl];exact h1) (by simpa using ew) ⟨rfl,fin⟩) hs
theorem ay8:IxR X aR0:=by
 intro value slice pins s σ H x y v u Q I rx ry h hs;obtain⟨z,i,c,rfl,rfl,hz,he,q⟩:=h;obtain⟨t,rfl⟩:=rx;obtain⟨t',rfl⟩:=ry;obtain⟨j,h1,h2,h3,h4,h5⟩:=Rh he;have hl:z.cps.toList.length=z.length:=by simp[Str.length]
 rw[hl] at h1 h4 h5;have hn:=Og
 exact tail_any (typeIs_str s z t) slot_str_getitem.lookup (getItem_str (c:=c) (by have e1:decide (i < -(2 ^ 63:Int))=false:=A0Q nofun;have e2:decide (i>=2 ^ 63)=false:=A0Q nofun;rw[e1,e2,Bool.or_false]) (by rw[h1];simpa using h2) ⟨.str ⟨#[c]⟩,H,I.tok _,⟨_,rfl⟩,q⟩) hs
def rIx (K:W.Frag):R2:=λx y H Q=>aS6 K x y H Q\/aQ3 K x y H Q\/aR0 x y H Q
theorem ix_seq:IxR X (rIx X.K):=ix_list.or (ix_tup.or ay8)
theorem Sz (lo hi:Option Int) (n:Nat):(sliceBounds lo hi none n).1=((HT.sIx n 0 lo:Nat):Int)/\(sliceBounds lo hi none n).2.1=((HT.sIx n n hi:Nat):Int)/\(sliceBounds lo hi none n).2.2=1:=by
 refine⟨?_,?_,rfl⟩
 . cases lo with
   |none=>simp[sliceBounds,HT.sIx]
   |some i=>
     simp only[sliceBounds,HT.sIx,Option.getD_none,show(1:Int)>0 by decide,if_true]
     by_cases h:i<0
     . simp only[h,if_true]<;>omega
     simp only[h,if_false]<;>omega
 cases hi with
 |none=>simp[sliceBounds,HT.sIx]
 |some i=>
   simp only[sliceBounds,HT.sIx,Option.getD_none,show(1:Int)>0 by decide,if_true]
   by_cases h:i<0
   . simp only[h,if_true]<;>omega
   simp only[h,if_false]<;>omega
theorem L3 (its:List Value)(lo hi:Option Int):slicePick its.toArray lo hi none=((its.drop (HT.sIx its.length 0 lo)).take (HT.sIx its.length its.length hi-HT.sIx its.length 0 lo)).toArray:=by obtain⟨h1,h2,h3⟩:=Sz lo hi its.toArray.size;unfold slicePick;rw[h1,h2,h3];simp only[sliceRange_one,pick_run,List.size_toArray]<;>rfl
def aR8 (K:W.Frag):V->Option Int->Option Int->Hp->VK->Prop:=λx lo hi H Q=>∃ a xs,x = .ref a/\SqL K H a xs/\∀ p,H p=none->Q (.ref p) (upd H p (.lst (Tp xs lo hi)))
theorem sl_list:SlR X (aR8 X.K):=by
 intro pins s σ H x v vl vu lo hi sl Q I rx hs pl pu h;obtain⟨a,xs,rfl,hx,q⟩:=h
 cases rx;obtain⟨its,r,ht,hz⟩:=I.list hx;have hlen:=r.length;refine⟨"list",_,slot_list_getitem.lookup,ht.isList.typeIs,?_⟩;refine wpAny_getItem_list_slice ht.isList hs pl pu .none (by simp) ?_ (by rw[List.size_toArray]<;>omega)
 rw[L3,<- hlen];refine⟨.ref s.heap.objs.size,_,I.laid (t':=s.toks) (o:=.lst (Tp xs lo hi)) (λb ob q=>A01 _ q) (A07 _) ?_,rfl,q _ (I.hok.fresh (A07 _))⟩;exact⟨A0L (Nl xs lo hi) hz,_,0,(r.drop (HT.sIx xs.length 0 lo)).take (HT.sIx xs.length xs.length hi-HT.sIx xs.length 0 lo),A0D _ rfl⟩
def Qv:V->Bool
 |.non=>true
 |.bl _=>true
 |.int _=>true
 |.str _=>true
 |_=>false
def eqV:V->V->Bool
 |.non,.non=>true
 |.bl a,.bl b=>a==b
 |.bl a,.int b=>(if a then 1 else 0)==b
 |.int a,.bl b=>a==(if b then 1 else 0)
 |.int a,.int b=>a==b
 |.str a,.str b=>a==b
 |_,_=>false
theorem aL1 {A:Around}{s:Shared}{y x:V}{u v:Value}(ry:RelV y u)(rx:RelV x v)(fy:Qv y=true)(fx:Qv x=true):SeqAt.EqAt A s u v (eqV y x):=by
 cases y with
 |non=>
   cases ry
   cases x with
   |non=>cases rx;exact SeqAt.EqAt.same _
   |bl b=>cases rx;exact SeqAt.EqAt.none_bool b
   |int b=>obtain⟨t,rfl⟩:=rx;exact SeqAt.EqAt.none_int b t
   |str b=>obtain⟨t,rfl⟩:=rx;exact SeqAt.EqAt.none_str b t
   |_=>exact absurd (show false=true from fx) A0F
 |bl a=>
   cases ry
   cases x with
   |non=>cases rx;exact SeqAt.EqAt.bool_none a
   |bl b=>cases rx;exact SeqAt.EqAt.bool_bool a b
   |int b=>obtain⟨t,rfl⟩:=rx;exact SeqAt.EqAt.bool_int a b t
   |str b=>obtain⟨t,rfl⟩:=rx;exact SeqAt.EqAt.bool_str a b t
   |_=>exact absurd (show false=true from fx) A0F
 |int a=>
   obtain⟨t',rfl⟩:=ry
   cases x with
   |non=>cases rx;exact SeqAt.EqAt.int_none a t'
   |bl b=>cases rx;exact SeqAt.EqAt.int_bool a t' b
   |int b=>obtain⟨t,rfl⟩:=rx;exact SeqAt.EqAt.int_int a t' b t
   |str b=>obtain⟨t,rfl⟩:=rx;exact SeqAt.EqAt.int_str a t' b t
   |_=>exact absurd (show false=true from fx) A0F
 |str a=>
   obtain⟨t',rfl⟩:=ry
   cases x with
   |non=>cases rx;exact SeqAt.EqAt.str_none a t'
   |bl b=>cases rx;exact SeqAt.EqAt.str_bool a t' b
   |int b=>obtain⟨t,rfl⟩:=rx;exact SeqAt.EqAt.str_int a t' b t
   |str b=>obtain⟨t,rfl⟩:=rx;exact SeqAt.EqAt.str_str a t' b t
   |_=>exact absurd (show false=true from fx) A0F
 |_=>exact absurd (show false=true from fy) A0F
def eqU (x:V)(u:Value):Bool:=match u with
 |.none=>eqV .non x
 |.bool b=>eqV (.bl b) x
 |.int i _=>eqV (.int i) x
 |.str z _=>eqV (.str z) x
 |_=>false
theorem ah3 {x y:V}{u:Value}(r:RelV y u)(f:Qv y=true):eqU x u=eqV y x:=by
 cases y with
 |non=>cases r;rfl
 |bl b=>cases r;rfl
 |int i=>obtain⟨t,rfl⟩:=r;rfl
 |str z=>obtain⟨t,rfl⟩:=r;rfl
 |_=>exact absurd (show false=true from f) A0F
theorem Nx {x:V}:∀ {xs:List V} {us:List Value},Vals xs us->xs.all Qv=true->us.any (eqU x)=xs.any λy=>eqV y x
 |_,_,.nil,_=>rfl
 |y :: xs,u :: us,.cons r t,f=>by rw[List.all_cons,A19] at f;rw[A21,A21,ah3 r f.1,Nx t f.2]
theorem L5 {A:Around}{s:Shared}{x:V}{v:Value}(rx:RelV x v)(fx:Qv x=true):∀ {xs:List V} {us:List Value},Vals xs us->xs.all Qv=true->∀ u∈us,SeqAt.EqAt A s u v (eqU x u)
 |_,_,.nil,_=>λu hu=>by cases hu
 |y :: xs,u :: us,.cons r t,f=>λu' hu=>by
   rw[List.all_cons,A19] at f;rcases A0C.mp hu with rfl|hu
   . rw[ah3 r f.1];exact aL1 r rx f.1 fx
   exact L5 rx fx t f.2 u' hu
def inV (x:V)(xs:List V):Bool:=xs.any λy=>eqV y x
def rIn (K:W.Frag)(neg:Bool):R2:=λx y H Q=>∃ p xs,y = .ref p/\(SqL K H p xs\/SqT K H p xs)/\Qv x=true/\xs.all Qv=true/\Q (.bl (if neg then !inV x xs else inV x xs)) H
theorem op_in_seq:OpR X (compareOp .In) (rIn X.K false):=by
 intro pins s σ H x y v u Q I rx ry h;obtain⟨p,xs,rfl,hq,fx,fs,q⟩:=h
 cases ry;rcases hq with hq|hq
 . obtain⟨its,r,pl,hz⟩:=I.list hq;refine SeqAt.in_listAt (eqU x) pl.isList (λw hw=>L5 rx fx r fs w (by simpa using hw)) ⟨.bl _,H,I,rfl,?_⟩;rw[show its.toArray.any (eqU x)=its.any (eqU x) by simp,Nx r fs];exact q
 obtain⟨its,r,pl,hz⟩:=I.tuple hq;refine SeqAt.in_tupleAt (eqU x) pl (λw hw=>L5 rx fx r fs w (by simpa using hw)) ⟨.bl _,H,I,rfl,?_⟩;rw[show its.toArray.any (eqU x)=its.any (eqU x) by simp,Nx r fs];exact q
theorem op_notIn_seq:OpR X (compareOp .NotIn) (rIn X.K true):=by
 intro pins s σ H x y v u Q I rx ry h;obtain⟨p,xs,rfl,hq,fx,fs,q⟩:=h
 cases ry;rcases hq with hq|hq
 . obtain⟨its,r,pl,hz⟩:=I.list hq;refine SeqAt.notIn_listAt (eqU x) pl.isList (λw hw=>L5 rx fx r fs w (by simpa using hw)) ⟨.bl _,H,I,rfl,?_⟩;rw[show its.toArray.any (eqU x)=its.any (eqU x) by simp,Nx r fs];exact q
 obtain⟨its,r,pl,hz⟩:=I.tuple hq;refine SeqAt.notIn_tupleAt (eqU x) pl (λw hw=>L5 rx fx r fs w (by simpa using hw)) ⟨.bl _,H,I,rfl,?_⟩;rw[show its.toArray.any (eqU x)=its.any (eqU x) by simp,Nx r fs];exact q
theorem op_notIn_str:OpR X (compareOp .NotIn) (λx y H Q=>∃ i j,x = .str i/\y = .str j/\Q (.bl (!(!(Builtin.Str.occurrences j i 0 j.length 1).isEmpty))) H):=by intro pins s σ H x y v u Q I rx ry h;obtain⟨i,j,rfl,rfl,q⟩:=h;obtain⟨t,rfl⟩:=rx;obtain⟨t',rfl⟩:=ry;exact notIn_str ⟨.bl _,H,I,rfl,q⟩
theorem CallR.or {f:Value}{r r':List V->Hp->VK->Prop}(h:CallR X f r)(h':CallR X f r'):CallR X f (λxs H Q=>r xs H Q\/r' xs H Q):=by
 intro pins s σ H xs us Q I rs q;rcases q with q|q
 . exact h pins s σ H xs us Q I rs q
 exact h' pins s σ H xs us Q I rs q
theorem Si:CallR X (.type "list") (λxs H Q=>∃ p ys,xs=[.ref p]/\(SqL X.K H p ys\/SqT X.K H p ys)/\∀ l,H l=none->Q (.ref l) (upd H l (.lst ys))):=by
 intro pins s σ H xs us Q I r h;obtain⟨p,ys,rfl,hq,q⟩:=h;obtain⟨u,rfl,rx⟩:=K6 r
 cases rx
 have fin:∀(its:List Value),Vals ys its->ys.length<=sizeLine->∀(h':Heap) (c':Nat),(∀ b o',s.heap.get? b=some o'->h'.get? b=some o') ->
   h'.get? s.heap.objs.size=some {cls:=.type "list",dict:=none,data:=.seq its.toArray c',slots:=#[]}->EP X pins σ Q (.ref s.heap.objs.size) {s with heap:=h'}:=λits r' hz h' c' kp e=>
  ⟨.ref s.heap.objs.size,_,I.laid (t':=s.toks) kp (A07 _) (show ObjOk X.prog X.w _ h' _ (.lst ys) from⟨hz,its,c',r',e⟩),rfl,q _ (I.hok.fresh (A07 _))⟩
 rcases hq with hq|hq
 . obtain⟨its,r',pl,hz⟩:=I.list hq;have hlen:=r'.length;obtain⟨o,ho,hc,n,hd⟩:=pl.isList;exact call_list_seq p (.inl rfl) ho hc hd (λh' c' kp e=>fin its r' hz h' c' kp e) (by simp only[List.size_toArray]<;>omega)
 obtain⟨its,r',pl,hz⟩:=I.tuple hq;have hlen:=r'.length;obtain⟨o,ho,hc,n,hd⟩:=pl;exact call_list_seq p (.inr rfl) ho hc hd (λh' c' kp e=>fin its r' hz h' c' kp e) (by simp only[List.size_toArray]<;>omega)
theorem Rm:CallR X (.type "tuple") (λxs H Q=>∃ p ys,xs=[.ref p]/\((SqL X.K H p ys/\∀ l,H l=none->Q (.ref l) (upd H l (.tup ys)))\/(SqT X.K H p ys/\Q (.ref p) H))):=by
 intro pins s σ H xs us Q I r h;obtain⟨p,ys,rfl,h⟩:=h;obtain⟨u,rfl,rx⟩:=K6 r
 cases rx;rcases h with ⟨hq,q⟩|⟨hq,q⟩
 . obtain⟨its,r',pl,hz⟩:=I.list hq;have hlen:=r'.length;refine call_tuple_list pl.isList (λh' kp=>?_) (by simp only[List.size_toArray]<;>omega)
   have I1:Inv X pins σ H {s with heap:=h'}:=I.kept (t':=s.toks) kp
   have I2:Inv X pins σ (upd H h'.objs.size (.tup ys)) {s with heap:=h'.push {cls:=.type "tuple",data:=.seq its.toArray}}:=
    I1.laid (t':=s.toks) (λb o e=>A01 _ e) (A07 _) (show ObjOk X.prog X.w _ _ _ (.tup ys) from⟨hz,its,r',IsTupN.new _ _⟩)
   exact⟨.ref h'.objs.size,_,I2,rfl,q _ (I1.hok.fresh (A07 _))⟩
 obtain⟨its,r',pl,hz⟩:=I.tuple hq;exact call_tuple_same pl ⟨.ref p,H,I,rfl,q⟩
def tyV (K:W.Frag)(T:String)(x:V)(H:Hp):Prop:=match x with
 |.str _=>T = "str"
 |.int _=>T = "int"
 |.ref p=>(T = "list" /\ ∃ xs,SqL K H p xs)\/(T = "tuple" /\ ∃ o,K.lookup p=some o/\o.cls = .type "tuple" /\ o.dict=none) \/
   (T = "dict" /\ ((∃ kvs,H p=some (.dK kvs))\/∃ kvs,H p=some (.dT kvs)))\/(T = "set" /\ ∃ S n,H p=some (.set S n))
 |_=>False
theorem am4 {pins:List (Addr×Obj)}{σ:St}{H:Hp}{s:Shared}{T:String}{x:V}{v:Value}(I:Inv X pins σ H s)(r:RelV x v)(ty:tyV X.K T x H) :
  s.TypeIs v T/\∀ a,v = .ref a->∃ ob,s.heap.get? a=some ob/\ob.dict=none:=by
 cases x with
 |str z=>
   obtain⟨t,rfl⟩:=r
   cases (show T = "str" from ty);exact⟨typeIs_str s z t,λ_ e=>nomatch e⟩
 |int i=>
   obtain⟨t,rfl⟩:=r
   cases (show T = "int" from ty);exact⟨typeIs_int s i t,λ_ e=>nomatch e⟩
 |ref p=>
   cases r;rcases ty with ⟨rfl,xs,hq⟩|⟨rfl,o,hk,hc,hd⟩|⟨rfl,hk⟩|⟨rfl,S,n,hk⟩
   . obtain⟨its,_,pl,_⟩:=I.list hq;refine⟨pl.isList.typeIs,λa e=>?_⟩
     cases e;obtain⟨o,n,e,c,hd,_⟩:=pl;exact⟨o,e,hd⟩
   . refine⟨⟨o,I.kIn p o hk,hc⟩,λa e=>?_⟩
     cases e;exact⟨o,I.kIn _ o hk,hd⟩
   . have z:∃ o,s.heap.get? p=some o/\o.ExactDict:=by
      rcases hk with ⟨kvs,hk⟩|⟨kvs,hk⟩
      . obtain⟨_,_,_,_,o,_,_,e,ex,_⟩:=I.hok p _ hk;exact⟨o,e,ex⟩
      obtain⟨_,_,_,_,o,_,_,e,ex,_⟩:=I.hok p _ hk;exact⟨o,e,ex⟩
     obtain⟨o,e,ex⟩:=z;refine⟨⟨o,e,ex.1⟩,λa e2=>?_⟩
     cases e2;exact⟨o,e,ex.2.1⟩
   obtain⟨o,_,_,_,e,ex,_⟩:=I.hok p _ hk;refine⟨⟨o,e,ex.1⟩,λa e2=>?_⟩
   cases e2;exact⟨o,e,ex.2.1⟩
 |_=>exact False.elim ty
def aP3 (K:W.Frag)(T:String)(r:V->List V->Hp->VK->Prop)(to:TE):TE:=fun σ H Q=>to σ H λx H1=>tyV K T x H1/\r x [] H1 Q
def tBM (K:W.Frag)(T:String)(r:V->List V->Hp->VK->Prop)(to:TE)(t:TA):TE:=fun σ H Q=>to σ H λx H1=>tyV K T x H1/\t σ H1 λxs H2=>r x xs H2 Q
variable {o e:Expr}{es:List Expr}{to:TE}{t:TA}{name:Str}{apos cpos:Pos}{T id:String}{r:V->List V->Hp->VK->Prop}
theorem aK1 (pa:PlainAttrs T)(slot:Slot T name id)(hty:typeOf (.builtin id)=pure (.type "method_descriptor"))(hm:MtR X id r)(ho:PE X o to)
  (hbase:attributeBase o name X.env (eval o X.env)=eval o X.env:=by ac_nf) (hline:(apos.endLine==cpos.line)=true:=by ac_nf):PE X (.Call (.Attribute o name apos) [] [] cpos) (aP3 X.K T r to):=by
 intro pins s σ H Q I h;refine wpAny_Call_method0_late hbase hline (thn (ho pins s σ H _ I h) λv s1 ⟨x,H1,I1,r1,ty,q1⟩=>?_);obtain⟨h1,h2⟩:=am4 I1 r1 ty;exact⟨T,id,pa,slot,hty,h1,h2,A3D rfl (PySem.evalArgs_none (hm pins s1 σ H1 x [] v [] Q I1 r1 .nil q1))⟩
theorem aN2 (pa:PlainAttrs T)(slot:Slot T name id)(hty:typeOf (.builtin id)=pure (.type "method_descriptor"))(hm:MtR X id r)(ho:PE X o to)(ha:PA X (e :: es) t)
  (hbase:attributeBase o name X.env (eval o X.env)=eval o X.env:=by ac_nf)
  (hfew:((backTo cpos (starEach (e :: es) X.env)).all (λx=>!x.1)&&(backToKw cpos (keywordEach [] X.env)).all (λx=>x.1.isSome)
   && decide ((e :: es).length+([]:List Keyword).length+(if([]:List Keyword).isEmpty then 0 else 1)<30))=true:=by ac_nf)
  (hline:(apos.endLine==cpos.line)=true:=by ac_nf) (hs:starEach (e :: es) X.env=(false,eval e X.env) :: starEach es X.env:=by ac_nf) (hplain:(backTo cpos (starEach es X.env)).any (·.1)=false:=by ac_nf) :
  PE X (.Call (.Attribute o name apos) (e :: es) [] cpos) (tBM X.K T r to t):=by
 intro pins s σ H Q I h;refine wpAny_Call_method_late hbase hfew hline rfl (thn (ho pins s σ H _ I h) λv s1 ⟨x,H1,I1,r1,ty,q1⟩=>?_);obtain⟨h1,h2⟩:=am4 I1 r1 ty;refine⟨T,id,pa,slot,hty,h1,h2,?_⟩;have hA:=ha cpos pins s1 σ H1 _ I1 q1;rw[hs] at hA ⊢;refine A3D (by show(false||(backTo cpos (starEach es X.env)).any (·.1))=false;rw[hplain]<;>rfl) (A4X ?_)
 exact thn hA λus s2 ⟨vs,H2,I2,r2,q2⟩=>hm pins s2 σ H2 x vs v us Q I2 r1 r2 q2
/- xs.append(e),list.index on a module's tuple .. are MtR facts of 06m -/
end
def MtM (X:Cx)(id:String)(r:V->List V->Hp->VK->Prop):Prop:=
 ∀(pins:List (Addr×Obj)) (s:Shared) (σ:St) (H:Hp) (x:V) (xs:List V) (v:Value) (us:List Value) (Q:VK),Inv X pins σ H s->RelV x v->Vals xs us->r x xs H Q ->
  wpAny (model X.prog X.w) X.A (call (.builtin id) (v :: us)) (EP X pins σ Q) X.xe s
theorem Vals.one {x:V}{us:List Value}(h:Vals [x] us):∃ u,us=[u]/\RelV x u:=by
 cases h with
 |cons r q=>cases q;exact⟨_,rfl,r⟩
theorem Vals.two {x y:V}{us:List Value}(h:Vals [x,y] us):∃ u v,us=[u,v]/\RelV x u/\RelV y v:=by
 cases h with
 |cons r q=>obtain⟨u,rfl,q'⟩:=Vals.one q;exact⟨_,_,rfl,r,q'⟩
theorem Vals.zero:∀ {us:List Value},Vals [] us->us=[]
 |_,.nil=>rfl
theorem Vals.dropLast {xs:List V}{us:List Value}(h:Vals xs us):Vals xs.dropLast us.dropLast:=by
 induction h with
 |nil=>exact .nil
 |cons r t ih=>
   cases t with
   |nil=>exact .nil
   |cons q t'=>exact .cons r ih
theorem Vals.eraseIdx:∀ {xs:List V} {us:List Value} (i:Nat),Vals xs us->Vals (xs.eraseIdx i) (us.eraseIdx i)
 |_,_,_,.nil=>.nil
 |_,_,0,.cons _ t=>t
 |_,_,i+1,.cons r t=>.cons r (Vals.eraseIdx i t)
theorem Vals.reverse {xs:List V}{us:List Value}(h:Vals xs us):Vals xs.reverse us.reverse:=by
 induction h with
 |nil=>exact .nil
 |cons r t ih=>rw[List.reverse_cons,List.reverse_cons];exact Vals.append ih (.cons r .nil)
theorem Vals.rep {xs:List V}{us:List Value}(h:Vals xs us):∀ k:Nat,Vals (List.replicate k xs).flatten (List.replicate k us).flatten
 |0=>.nil
 |k+1=>by rw[A2K,A2K,A47,A47];exact Vals.append h (Vals.rep h k)
theorem Xg {α:Type}(l:List α):l.eraseIdx (l.length-1)=l.dropLast:=by
 induction l with
 |nil=>rfl
 |cons a r ih=>
   cases r with
   |nil=>rfl
   |cons b r=>
     have e:(a :: b :: r).length-1=((b :: r).length-1)+1:=by have h1:(a :: b :: r).length=r.length+2:=rfl;have h2:(b :: r).length=r.length+1:=rfl;omega
     rw[e,List.eraseIdx_cons_succ,ih]
     all_goals rfl
theorem Sk {α:Type}:∀(l:List α) (i:Nat),(l.eraseIdx i).length<=l.length
 | [],_=>A07 _
 |_ :: _,0=>A2H _
 |_ :: r,i+1=>Nat.succ_le_succ (Sk r i)
theorem Sv (its:List Value):∀(k:Nat) (acc:List Value),
  List.foldl (λx1 x2=>x1++x2) acc.toArray (List.replicate k its.toArray)=(acc++(List.replicate k its).flatten).toArray
 |0,acc=>by simp
 |k+1,acc=>by
   have e:acc.toArray++its.toArray=(acc++its).toArray:=by simp
   have e2:(acc++its)++(List.replicate k its).flatten=acc++(List.replicate (k+1) its).flatten:=by rw[A2K,A47,A2V]
   rw[<- e2,<- Sv its k (acc++its),<- e,A2K,A4M]
section
variable {X:Cx}{pins:List (Addr×Obj)}{σ:St}{H:Hp}{s:Shared}{l b:Addr}{xs ys zs:List V}
theorem Inv.lset {its its':List Value}{n:Nat}{f:Array Value->Array Value}{t':Nat}(I:Inv X pins σ H s)(hH:H l=some (.lst xs))
  (e:s.heap.get? l=some {cls:=.type "list",data:=.seq its.toArray n}) (hf:f its.toArray=its'.toArray) (hv:Vals ys its') (hz:ys.length<=sizeLine) :
  Inv X pins σ (upd H l (.lst ys)) {s with heap:=s.heap.update l (Obj.mapSeq f),toks:=t'}:=by
 have q:=PySem.IsL.update e f;rw[hf] at q;refine I.write (x:=l) (e:=l) (by rw[hH];exact trivial) (.inl rfl) (λb' u hb hu=>(A1D s.heap (Obj.mapSeq f) (Ne.symm hb)).trans hu) ⟨_,q⟩ ?_;exact⟨hz,its',_,hv,q⟩
theorem Inv.lnew {its:List Value}{t':Nat}(I:Inv X pins σ H s)(hv:Vals ys its)(hz:ys.length<=sizeLine) :
  Inv X pins σ (upd H s.heap.objs.size (.lst ys)) {s with heap:=s.heap.push {cls:=.type "list",data:=.seq its.toArray},toks:=t'}:=
 I.laid (λ_ _ q=>A01 _ q) (A07 _) ⟨hz,its,0,hv,A0D _ rfl⟩
theorem Inv.fresh (I:Inv X pins σ H s):H s.heap.objs.size=none:=I.hok.fresh (A07 _)
theorem Inv.lstM (I:Inv X pins σ H s)(hH:H l=some (.lst xs)):xs.length<=sizeLine/\∃(its:List Value) (n:Nat),Vals xs its/\xs.length=its.length/\s.heap.get? l=some {cls:=.type "list",data:=.seq its.toArray n}:=by obtain⟨z,its,n,r,e⟩:=I.hok l _ hH;exact⟨z,its,n,r,r.length,e⟩
theorem Vz {n:Nat}(h:n<=sizeLine):Builtin.List.listTooLong n=false:=by unfold Builtin.List.listTooLong;exact A0Q nofun
end
section
variable {X:Cx}
def Yt:V->List V->Hp->VK->Prop:=λx vs H Q=>∃ l xs y,x = .ref l/\vs=[y]/\H l=some (.lst xs)/\xs.length<sizeLine/\Q .non (upd H l (.lst (xs++[y])))
theorem Bg:MtM X "list.append" Yt:=by
 intro pins s σ H x vs v us Q I rx rv h;obtain⟨l,xs,y,rfl,rfl,hH,hz,q⟩:=h
 cases rx;obtain⟨u,rfl,ru⟩:=rv.one;obtain⟨z,its,n,r,hl,e⟩:=I.lstM hH;refine A3S F.slot_list_append ⟨_,e,rfl⟩ F.entry_list_append (F.args_list_append_2 _ _) (PySem.list_append l its.toArray n u (by rw[A0U];omega)) ⟨e,?_⟩;refine⟨.non,_,I.lset (its':=its++[u]) hH e (by simp) (r.append (.cons ru .nil)) ?_,rfl,q⟩;rw[A0T,A27];omega
def Y9:V->List V->Hp->VK->Prop:=λx vs H Q=>∃ l b xs zs,x = .ref l/\vs=[.ref b]/\H l=some (.lst xs)/\H b=some (.lst zs)/\xs.length+zs.length<=sizeLine/\Q .non (upd H l (.lst (xs++zs)))
theorem T4:MtM X "list.extend" Y9:=by
 intro pins s σ H x vs v us Q I rx rv h;obtain⟨l,b,xs,zs,rfl,rfl,hH,hB,hz,q⟩:=h
 cases rx;obtain⟨u,rfl,ru⟩:=rv.one
 cases ru;obtain⟨z,its,n,r,hl,e⟩:=I.lstM hH;obtain⟨z2,its2,n2,r2,hl2,e2⟩:=I.lstM hB;have hsz:its.toArray.size+its2.toArray.size<=sizeLine:=by rw[A0U,A0U];omega
 have hlong:¬ (!its.toArray.isEmpty&&Builtin.List.listTooLong (its.toArray.size+its2.toArray.size))=true:=by rw[Vz hsz,A50];exact A0F
 refine A3S F.slot_list_extend ⟨_,e,rfl⟩ F.entry_list_extend (F.args_list_extend_2 _ _)
  (AutoSeq1.list_extend_list_list_0 l its.toArray n b its2.toArray n2 hlong (by rw[A0U];omega) nofun) ⟨e,e2,?_⟩
 refine⟨.non,_,I.lset (its':=its++its2) hH e (by simp) (r.append r2) ?_,rfl,q⟩;rw[A0T];omega
def rPop:V->List V->Hp->VK->Prop:=λx vs H Q=>∃ l xs y,x = .ref l/\vs=[]/\H l=some (.lst xs)/\xs[xs.length-1]? = some y/\Q y (upd H l (.lst xs.dropLast))
theorem ak8:MtM X "list.pop" rPop:=by
 intro pins s σ H x vs v us Q I rx rv h;obtain⟨l,xs,y,rfl,rfl,hH,hy,q⟩:=h
 cases rx;have hus:=rv.zero;subst hus;obtain⟨z,its,n,r,hl,e⟩:=I.lstM hH;obtain⟨u,hu,ru⟩:=r.get hy
 have hy':its.toArray[its.toArray.size-1]? = some u:=by show its.toArray[its.length-1]? = some u;rw[<- A3N,<- hl];exact hu
 refine A3S F.slot_list_pop ⟨_,e,rfl⟩ F.entry_list_pop (F.args_list_pop_1 _) (MeetsSeq.list_pop_last l its.toArray n u hy' (by rw[A0U];omega)) ⟨e,?_⟩;refine⟨y,_,I.lset (its':=its.dropLast) hH e ?_ r.dropLast ?_,ru,q⟩
 . show its.toArray.eraseIdxIfInBounds (its.toArray.size-1)=its.dropLast.toArray;rw[A0U,List.eraseIdxIfInBounds_toArray,Xg]
 rw[List.length_dropLast];omega
def am7:V->List V->Hp->VK->Prop:=λx vs H Q=>∃ l xs i k y,x = .ref l/\vs=[.int i]/\H l=some (.lst xs) /\ -(2 ^ 63)<=i/\i<2 ^ 63/\seqIndex? i xs.length=some k/\xs[k]? = some y/\Q y (upd H l (.lst (xs.eraseIdx k)))
theorem ae1:MtM X "list.pop" am7:=by
 intro pins s σ H x vs v us Q I rx rv h;obtain⟨l,xs,i,k,y,rfl,rfl,hH,h1,h2,hk,hy,q⟩:=h
 cases rx;obtain⟨u,rfl,ru⟩:=rv.one;obtain⟨t,rfl⟩:=ru;obtain⟨z,its,n,r,hl,e⟩:=I.lstM hH;obtain⟨w,hw,rw'⟩:=r.get hy
 refine A3S F.slot_list_pop ⟨_,e,rfl⟩ F.entry_list_pop (F.args_list_pop_2 _ _)
  (MeetsSeq.list_pop_at l its.toArray n i t k w (fitsIndex_both h1 h2) (by rw[A0U,<- hl];exact hk) (by rw[<- A3N];exact hw) (by rw[A0U];omega)) ⟨e,?_⟩
 refine⟨y,_,I.lset (its':=its.eraseIdx k) hH e ?_ (r.eraseIdx k) ?_,rw',q⟩
 . show its.toArray.eraseIdxIfInBounds k=(its.eraseIdx k).toArray;rw[List.eraseIdxIfInBounds_toArray]
 have:=Sk xs k;omega
def W3:V->List V->Hp->VK->Prop:=λx vs H Q=>∃ l xs,x = .ref l/\vs=[]/\H l=some (.lst xs)/\Q .non (upd H l (.lst xs.reverse))
theorem X9:MtM X "list.reverse" W3:=by
 intro pins s σ H x vs v us Q I rx rv h;obtain⟨l,xs,rfl,rfl,hH,q⟩:=h
 cases rx;have hus:=rv.zero;subst hus;obtain⟨z,its,n,r,hl,e⟩:=I.lstM hH;refine A3S F.slot_list_reverse ⟨_,e,rfl⟩ F.entry_list_reverse (F.args_list_reverse_1 _) (AutoSeq1.list_reverse_list_0 l its.toArray n (by rw[A0U];omega)) ⟨e,?_⟩;refine⟨.non,_,I.lset (its':=its.reverse) hH e (by simp) r.reverse ?_,rfl,q⟩;rw[A3V];omega
def aS0:R2:=λx y H Q=>∃ l b xs zs,x = .ref l/\y = .ref b/\H l=some (.lst xs)/\H b=some (.lst zs)/\xs.length+zs.length<=sizeLine/\∀ p,H p=none->Q (.ref p) (upd H p (.lst (xs++zs)))
theorem op_cat:OpR X (binaryOp .Add) aS0:=by
 intro pins s σ H x y v u Q I rx ry h;obtain⟨l,b,xs,zs,rfl,rfl,hH,hB,hz,q⟩:=h
 cases rx
 cases ry;obtain⟨z,its,n,r,hl,e⟩:=I.lstM hH;obtain⟨z2,its2,n2,r2,hl2,e2⟩:=I.lstM hB;refine PySem.P.add_list e e2 ?_ (by rw[A0U,A0U];omega);have ea:its.toArray++its2.toArray=(its++its2).toArray:=by simp
 rw[ea];exact⟨.ref _,_,I.lnew (t':=s.toks) (r.append r2) (by rw[A0T];omega),rfl,q _ I.fresh⟩
def aR1:R2:=λx y H Q=>∃ l k xs,x = .ref l/\y = .int k/\H l=some (.lst xs) /\ -(2 ^ 63)<=k/\k<2 ^ 63/\xs.length*k.toNat<=sizeLine /\
 ∀ p,H p=none->Q (.ref p) (upd H p (.lst (List.replicate k.toNat xs).flatten))
theorem av5 {α:Type}(xs:List α)(k:Nat):(List.replicate k xs).flatten.length=k*xs.length:=by
 induction k with
 |zero=>simp
 |succ k ih=>rw[A2K,A47,A0T,ih,Nat.succ_mul,Nat.add_comm]
theorem aH3:OpR X (binaryOp .Mult) aR1:=by
 intro pins s σ H x y v u Q I rx ry h;obtain⟨l,k,xs,rfl,rfl,hH,h1,h2,hz,q⟩:=h
 cases rx;obtain⟨t,rfl⟩:=ry;obtain⟨z,its,n,r,hl,e⟩:=I.lstM hH;have hlen:its.toArray.size*k.toNat<=sizeLine:=by rw[A0U,<- hl];exact hz
 have hcap:¬ its.toArray.size*k.toNat>(2 ^ 63-1) / 8:=by
  have:(sizeLine:Nat)<=(2 ^ 63-1) / 8:=by decide
  omega
 have hfit:¬ (!Builtin.List.listFitsIndex k)=true:=by rw[fitsIndex_both h1 h2];exact A0F
 have hlong:¬ Builtin.List.listTooLong (its.toArray.size*k.toNat)=true:=by rw[Vz hlen];exact A0F
 have hnew:List.foldl (λx1 x2=>x1++x2) #[] (List.replicate (if its.toArray.isEmpty=true then 0 else k.toNat) its.toArray)=(List.replicate k.toNat its).flatten.toArray:=by
  have f0:∀ m:Nat,List.foldl (λx1 x2=>x1++x2) #[] (List.replicate m its.toArray)=(List.replicate m its).flatten.toArray:=λm=>by have:=Sv its m [];rw[A4N] at this;exact this
  rw[f0]
  cases its with
  |nil=>simp
  |cons a r'=>rw[if_neg (by simp)]
 refine wpAny_binaryOp_repeat_ref (T:="list") (U:="int") ∅ ⟨_,e,rfl⟩ (λs'=>typeIs_int s' k t) noFill_list_mul F.fills_int_mul F.slot_int_rmul repeat_list F.slot_int_index.lookup
  (A3S F.slot_int_rmul (typeIs_int s k t) F.entry_int_rmul (F.args_int_rmul_2 _ _) (int___rmul___int_list k t l its.toArray n)
   ⟨e,rfl,⟨_,e,rfl⟩,A3S F.slot_list_mul ⟨_,e,rfl⟩ F.entry_list_mul (F.args_list_mul_2 _ _) (AutoListH.list___mul___list_int_3 l its.toArray n k t hfit hcap hlong) ⟨e,?_⟩⟩)
 rw[hnew];exact⟨.ref _,_,I.lnew (t':=s.toks) (r.rep k.toNat) (by rw[av5,A4O];exact hz),rfl,q _ I.fresh⟩
end
section
variable {prog:Program}{w:World}{A:Around}{E:Value->Shared->Prop}{s:Shared}
set_option maxRecDepth 100000 in
end
section
variable {X:Cx}
end
section
variable {κ:Type}[DecidableEq κ]
def Dj (kvs:List (κ×V))(k:κ):Option V:=(kvs.find? λkv=>decide (kv.1=k)).map (·.2)
def Fs (kvs:List (κ×V))(k:κ)(v:V):List (κ×V):=
 if(kvs.any λkv=>decide (kv.1=k))=true then kvs.map (λkv=>if kv.1=k then(kv.1,v) else kv) else kvs++[(k,v)]
theorem ad5 {k:κ}:Dj ([]:List (κ×V)) k=none:=rfl
theorem Ba {p:κ×V} {r:List (κ×V)} {k:κ} (e:p.1=k):Dj (p :: r) k=some p.2:=by simp[Dj,List.find?_cons,e]
theorem B6 {p:κ×V}{r:List (κ×V)}{k:κ}(e:¬ p.1=k):Dj (p :: r) k=Dj r k:=by simp[Dj,List.find?_cons,e]
theorem Hv (k:κ):∀ kvs:List (κ×V),(kvs.any λkv=>decide (kv.1=k))=(Dj kvs k).isSome
 | []=>rfl
 |p :: r=>by
   rw[A21]
   by_cases e:p.1=k
   . simp only[Ba e,decide_eq_true e,Bool.true_or,Option.isSome_some]
   rw[B6 e,A0Q e,A4C];exact Hv k r
theorem Wo (k j:κ)(y:V):∀ kvs:List (κ×V),Dj (kvs.map λkv=>if kv.1=k then(kv.1,y) else kv) j=(Dj kvs j).map λx=>if j=k then y else x
 | []=>rfl
 |p :: r=>by
   have ih:=Wo k j y r;rw[A0H]
   by_cases h:p.1=k
   . rw[A0R h]
     by_cases e:p.1=j
     . rw[Ba (p:=(p.1,y)) e,Ba e,A4P,A0R (e.symm.trans h)]
     rw[B6 (p:=(p.1,y)) e,B6 e,ih]
   rw[A0J h]
   by_cases e:p.1=j
   . rw[Ba (p:=p) e,Ba e,A4P,A0J (λz=>h (e.trans z))]
   rw[B6 (p:=p) e,B6 e,ih]
theorem Rs (k j:κ)(y:V):∀ kvs:List (κ×V),Dj kvs k=none->Dj (kvs++[(k,y)]) j=if j=k then some y else Dj kvs j
 | [],_=>by
   by_cases e:k=j
   . rw[A0R e.symm];exact Ba (p:=(k,y)) e
   rw[A0J (λz=>e z.symm)];exact B6 (p:=(k,y)) e
 |p :: r,hn=>by
   rw[List.cons_append];have hk:¬ p.1=k:=λz=>by rw[Ba z] at hn;cases hn
   rw[B6 hk] at hn;have ih:=Rs k j y r hn
   by_cases e:p.1=j
   . rw[Ba e,Ba e,A0J (λz=>hk (e.trans z))]
   rw[B6 e,B6 e,ih]
theorem ab3 (kvs:List (κ×V))(k j:κ)(y:V):Dj (Fs kvs k y) j=if j=k then some y else Dj kvs j:=by
 unfold Fs
 by_cases a:(kvs.any λkv=>decide (kv.1=k))=true
 . rw[A0R a,Wo];rw[Hv] at a
   by_cases e:j=k
   . obtain⟨x,hx⟩:=Option.isSome_iff_exists.mp a;rw[A0R e,e,hx,A4P,A0R rfl]
   rw[A0J e]
   cases Dj kvs j with
   |none=>rfl
   |some x=>rw[A4P,A0J e]
 rw[A0J a];refine Rs k j y kvs ?_;rw[Hv] at a
 cases q:Dj kvs k with
 |none=>rfl
 |some x=>rw[q] at a;exact(a rfl).elim
theorem K9 (kvs:List (κ×V))(k:κ)(v:V):(Fs kvs k v).length<=kvs.length+1:=by
 unfold Fs
 split
 . rw[A02];omega
 rw[A0T,A0N,List.length_nil];omega
theorem L6 {kvs:List (κ×V)}{k:κ}(v:V)(h:Dj kvs k=none):Fs kvs k v=kvs++[(k,v)]:=by unfold Fs;rw [Hv,h];exact A0J ∅
theorem RelO.isSome_eq {o:Option V}{u:Option Value}(r:RelO o u):o.isSome=u.isSome:=by
 cases o with
 |none=>cases u with
   |none=>rfl
   |some _=>exact(show False from r).elim
 |some _=>cases u with
   |none=>exact(show False from r).elim
   |some _=>rfl
theorem RelO.getD {o:Option V}{u:Option Value}{d:V}{d':Value}(r:RelO o u)(rd:RelV d d'):RelV (o.getD d) (u.getD d'):=by
 cases o with
 |none=>cases u with
   |none=>exact rd
   |some _=>exact(show False from r).elim
 |some _=>cases u with
   |none=>exact(show False from r).elim
   |some _=>exact r
theorem KV.val {kvs:List (κ×V)} {vs:List (κ×Value)} (r:KV kvs vs) (k:κ):RelO (Dj kvs k) (valueAt vs k):=by
 unfold KV at r
 induction r with
 |nil=>exact A1J
 |@cons p q ps qs h t ih=>
   obtain⟨h1,h2⟩:=h
   by_cases e:p.1=k
   . have e':q.1=k:=h1.symm.trans e;have b:valueAt (q :: qs) k=some q.2:=by simp[valueAt,List.find?_cons,e']
     rw[Ba e,b];exact h2
   have e':¬ q.1=k:=λz=>e (h1.trans z);have b:valueAt (q :: qs) k=valueAt qs k:=by simp[valueAt,List.find?_cons,e']
   rw[B6 e,b];exact ih
theorem KV.any {kvs:List (κ×V)}{vs:List (κ×Value)}(r:KV kvs vs)(k:κ):(kvs.any λkv=>decide (kv.1=k))=vs.any λkv=>decide (kv.1=k):=by
 unfold KV at r
 induction r with
 |nil=>rfl
 |cons h t ih=>rw[A21,A21,ih,h.1]
theorem KV.repl {kvs:List (κ×V)}{vs:List (κ×Value)}(r:KV kvs vs)(k:κ){y:V}{u:Value}(ry:RelV y u) :
  KV (kvs.map λkv=>if kv.1=k then(kv.1,y) else kv) (vs.map λkv=>if kv.1=k then(kv.1,u) else kv):=by
 unfold KV at r ⊢
 induction r with
 |nil=>exact .nil
 |@cons p q ps qs h t ih=>
   rw[A0H,A0H];refine .cons ?_ ih;obtain⟨h1,h2⟩:=h
   by_cases e:p.1=k
   . rw[A0R e,A0R (h1.symm.trans e)];exact⟨h1,ry⟩
   rw[A0J e,A0J (λz=>e (h1.trans z))];exact⟨h1,h2⟩
theorem KV.put {kvs:List (κ×V)}{vs:List (κ×Value)}(r:KV kvs vs)(k:κ){y:V}{u:Value}(ry:RelV y u):KV (Fs kvs k y) (stored vs k u):=by
 unfold Fs stored;rw[r.any k]
 by_cases e:(vs.any λkv=>decide (kv.1=k))=true
 . rw[A0R e,A0R e];exact r.repl k ry
 rw[A0J e,A0J e];exact Paired.snoc r ⟨rfl,ry⟩
theorem KV.keys {kvs:List (κ×V)}{vs:List (κ×Value)}(r:KV kvs vs):kvs.map (·.1)=vs.map (·.1):=by
 unfold KV at r
 induction r with
 |nil=>rfl
 |cons h t ih=>rw[A0H,A0H,ih,h.1]
theorem KV.length {kvs:List (κ×V)}{vs:List (κ×Value)}(r:KV kvs vs):kvs.length=vs.length:=A2U r
end
theorem Qn {P:Program}{w:World}{k:Key}{u:Value}(r:RelV (kV k) u):(Ao P w).is k u=true:=by
 cases k with
 |inl i=>obtain⟨t,e⟩:=(show ∃ t,u=Value.int i t from r);subst e;exact Ue P w i t
 |inr x=>obtain⟨t,e⟩:=(show ∃ t,u=Value.str x t from r);subst e;exact Up P w x t
theorem Sa {P:Program}{w:World}:∀ {ks:List Key} {us:List Value},Vals (ks.map kV) us->ItemsAre (Ao P w) ks us
 | [],_,r=>by rw[A4Q] at r;cases r;exact .nil
 |k :: ks,_,r=>by
   rw[A0H] at r
   cases r with
   |cons h t=>exact .cons (Qn h) (Sa t)
abbrev KT (H:Hp):List (List Key×V)->List (List Key×Addr×Value)->Prop:=Paired λp q=>p.1=q.1/\H q.2.1=some (.tup (p.1.map kV))/\RelV p.2 q.2.2
theorem KT.val {H:Hp}{kvs:List (List Key×V)}{xs:List (List Key×Addr×Value)}(r:KT H kvs xs)(k:List Key):RelO (Dj kvs k) ((atKey xs k).map (·.2)):=by
 induction r with
 |nil=>exact A1J
 |@cons p q ps qs h t ih=>
   obtain⟨h1,_,h2⟩:=h
   by_cases e:p.1=k
   . have e':q.1=k:=h1.symm.trans e;have b:atKey (q :: qs) k=some q.2:=by simp[atKey,List.find?_cons,e']
     rw[Ba e,b];exact h2
   have e':¬ q.1=k:=λz=>e (h1.trans z);have b:atKey (q :: qs) k=atKey qs k:=by simp[atKey,List.find?_cons,e']
   rw[B6 e,b];exact ih
theorem KT.repl {H:Hp} {kvs:List (List Key×V)} {xs:List (List Key×Addr×Value)} (r:KT H kvs xs) (k:List Key) {y:V} {u:Value} (ry:RelV y u) :
  KT H (kvs.map λkv=>if kv.1=k then(kv.1,y) else kv) (xs.map (putAt k u)):=by
 induction r with
 |nil=>exact .nil
 |@cons p q ps qs h t ih=>
   rw[A0H,A0H];refine .cons ?_ ih;obtain⟨h1,h2,h3⟩:=h;unfold putAt
   by_cases e:p.1=k
   . rw[A0R e,A0R (h1.symm.trans e)];exact⟨h1,h2,ry⟩
   rw[A0J e,A0J (λz=>e (h1.trans z))];exact⟨h1,h2,h3⟩
theorem KT.put {H:Hp}{kvs:List (List Key×V)}{xs:List (List Key×Addr×Value)}(r:KT H kvs xs)(k:List Key){b:Addr}{y:V}{u:Value}(hb:H b=some (.tup (k.map kV)))(ry:RelV y u) :
  KT H (Fs kvs k y) (storedH xs k b u):=by
 have e:(kvs.any λkv=>decide (kv.1=k))=(atKey xs k).isSome:=by rw[Hv,(r.val k).isSome_eq,Option.isSome_map]
 unfold Fs storedH;rw[e]
 by_cases q:(atKey xs k).isSome=true
 . rw[A0R q,A0R q];exact r.repl k ry
 rw[A0J q,A0J q];exact Paired.snoc r ⟨rfl,hb,ry⟩
theorem KT.keeps {H H':Hp}{kvs:List (List Key×V)}{xs:List (List Key×Addr×Value)}(r:KT H kvs xs)(ht:∀ b ys,H b=some (.tup ys)->H' b=some (.tup ys)):KT H' kvs xs:=
 Paired.mapP r λ_ _ z=>⟨z.1,ht _ _ z.2.1,z.2.2⟩
section
variable {P:Program}{w:World}{H:Hp}{h:Heap}{a:Addr}
theorem aD0 {u:HO}(ok:HOk P w H h)(e:Rd H a u):ObjOk P w H h a u:=e.ok ok
theorem Qq {kvs:List (Key×V)}(ok:HOk P w H h)(e:Rd H a (.dK kvs)):kvs.length<=sizeLine/\(a==sysModules)=false/\∃ vs,KV kvs vs/\h.DictOf (Ao P w) a vs:=
 show ObjOk P w H h a (.dK kvs) from aD0 ok e
theorem T7 {kvs:List (Key×V)}(ok:HOk P w H h)(e:H a=some (.dK kvs)):kvs.length<=sizeLine/\(a==sysModules)=false/\∃ vs,KV kvs vs/\h.DictOf (Ao P w) a vs:=Qq ok (.inl e)
theorem Ni {ks:List Key}(ok:HOk P w H h)(e:H a=some (.tup (ks.map kV))):(tupleKind (Ao P w)).is h ks a:=by obtain⟨_,its,r,o,h1,h2,⟨n,h3⟩,_⟩:=(show ObjOk P w H h a (.tup (ks.map kV)) from ok a _ e);exact⟨o,its.toArray,n,h1,h2,h3,by simpa using Sa r⟩
theorem Sr {kvs:List (List Key×V)}(ok:HOk P w H h)(e:Rd H a (.dT kvs)):kvs.length<=sizeLine/\(a==sysModules)=false /\
  ∃ xs,KT H kvs xs/\h.DictOfH (tupleKind (Ao P w)) a xs:=by
 obtain⟨z,y,xs,r,o,es,ep,h1,h2,h3,h4,h5⟩:=(show ObjOk P w H h a (.dT kvs) from aD0 ok e);refine⟨z,y,xs,r,o,es,ep,h1,h2,h3,h4,λx hx=>?_,h5⟩
 have all:∀ {l:List (List Key×V)} {m:List (List Key×Addr×Value)},KT H l m->∀ x∈m,(tupleKind (Ao P w)).is h x.1 x.2.1:=by
  intro l m q
  induction q with
  |nil=>intro x hx;exact nomatch hx
  |@cons p q ps qs hq t ih=>
    intro x hx;rcases A0C.mp hx with e|hx
    . subst e;exact Ni ok (by rw[<- hq.1];exact hq.2.1)
    exact ih x hx
 exact all r x hx
theorem aO8 {kvs:List (List Key×V)}(ok:HOk P w H h)(e:H a=some (.dT kvs)):kvs.length<=sizeLine/\(a==sysModules)=false /\
  ∃ xs,KT H kvs xs/\h.DictOfH (tupleKind (Ao P w)) a xs:=Sr ok (.inl e)
end
def DGet (H:Hp)(a:Addr)(y:V)(r:Option V):Prop:=
 (∃ kvs k,Rd H a (.dK kvs)/\y=kV k/\r=Dj kvs k)\/∃ kvs k b,Rd H a (.dT kvs)/\y = .ref b/\H b=some (.tup (k.map kV))/\r=Dj kvs k
def DPut (H:Hp)(a:Addr)(y v:V)(H':Hp):Prop:=
 (∃ kvs k,H a=some (.dK kvs)/\y=kV k/\kvs.length<sizeLine/\H'=upd H a (.dK (Fs kvs k v))) \/
 ∃ kvs k b,H a=some (.dT kvs)/\y = .ref b/\H b=some (.tup (k.map kV))/\kvs.length<sizeLine/\H'=upd H a (.dT (Fs kvs k v))
theorem DGet.k {H:Hp}{a:Addr}{kvs:List (Key×V)}{k:Key}(e:H a=some (.dK kvs)):DGet H a (kV k) (Dj kvs k):=.inl ⟨kvs,k,.inl e,rfl,rfl⟩
theorem DPut.k {H:Hp}{a:Addr}{kvs:List (Key×V)}{k:Key}{v:V}(e:H a=some (.dK kvs))(hl:kvs.length<sizeLine):DPut H a (kV k) v (upd H a (.dK (Fs kvs k v))):=.inl ⟨kvs,k,e,rfl,hl,rfl⟩
section
variable {X:Cx}{pins:List (Addr×Obj)}{σ:St}{H:Hp}{s:Shared}{a:Addr}{y v:V}{u r:Value}{o:Option V}{A:Around}{E:Value->Shared->Prop}
theorem Inv.big (I:Inv X pins σ H s):sysModules<s.heap.objs.size:=by have h:mainGlobals<s.heap.objs.size:=(I.mod.glob.keeps I.bk).lt;exact A4R ∅ h
theorem a68 {Q:Value->Shared->Prop}(hu:A.units+1<cLine)(I:Inv X pins σ H s)(g:DGet H a y (some v))(ry:RelV y u)(h:∀ w' s',Inv X pins σ H s'->RelV v w'->Q w' s') :
  wpAny (model X.prog X.w) A (getItem (.ref a) u) Q E s:=by
 rcases g with ⟨kvs,k,e,ey,l⟩|⟨kvs,k,b,e,ey,eb,l⟩
 . subst ey;obtain⟨z,hd,vs,rel,dd⟩:=Qq I.hok e;obtain⟨w',hw,rw'⟩:=RelO.some_of (v:=v) (o:=valueAt vs k) (by rw[l];exact rel.val k);exact wpAny_getItem_of (Qn ry) dd.mapOf hw (h w' _ (I.tok _) rw')
 subst ey
 cases (show u=Value.ref b from ry);obtain⟨z,hd,xs,rel,dd⟩:=Sr I.hok e;obtain⟨w',hw,rw'⟩:=RelO.some_of (v:=v) (o:=(atKey xs k).map (·.2)) (by rw[l];exact rel.val k);obtain⟨p,hp,hp2⟩:=A4J.mp hw;refine wpAny_getItem_heap (A2P hu) (Ni I.hok eb) dd hp ?_;rw[hp2];exact h w' _ (I.tok _) rw'
theorem d_in {Q:Value->Shared->Prop}(hu:A.units+1<cLine)(I:Inv X pins σ H s)(g:DGet H a y o)(ry:RelV y u)(h:∀ s',Inv X pins σ H s'->Q (.bool o.isSome) s') :
  wpAny (model X.prog X.w) A (compareOp .In u (.ref a)) Q E s:=by
 rcases g with ⟨kvs,k,e,ey,l⟩|⟨kvs,k,b,e,ey,eb,l⟩
 . subst ey;obtain⟨z,hd,vs,rel,dd⟩:=Qq I.hok e;refine wpAny_in_of (Qn ry) hd dd.mapOf ?_;rw[<- (rel.val k).isSome_eq,<- l];exact h _ (I.tok _)
 subst ey
 cases (show u=Value.ref b from ry);obtain⟨z,hd,xs,rel,dd⟩:=Sr I.hok e;refine wpAny_in_heap (A2P hu) (Ni I.hok eb) hd dd ?_;have q:=(rel.val k).isSome_eq;rw[Option.isSome_map] at q;rw[<- q,<- l];exact h _ (I.tok _)
theorem as8 {Q:Value->Shared->Prop}(hu:A.units+1<cLine)(I:Inv X pins σ H s)(g:DGet H a y o)(ry:RelV y u)(h:∀ s',Inv X pins σ H s'->Q (.bool (!o.isSome)) s') :
  wpAny (model X.prog X.w) A (compareOp .NotIn u (.ref a)) Q E s:=by
 rcases g with ⟨kvs,k,e,ey,l⟩|⟨kvs,k,b,e,ey,eb,l⟩
 . subst ey;obtain⟨z,hd,vs,rel,dd⟩:=Qq I.hok e;refine wpAny_notIn_of (Qn ry) hd dd.mapOf ?_;rw[<- (rel.val k).isSome_eq,<- l];exact h _ (I.tok _)
 subst ey
 cases (show u=Value.ref b from ry);obtain⟨z,hd,xs,rel,dd⟩:=Sr I.hok e;refine wpAny_notIn_heap (A2P hu) (Ni I.hok eb) hd dd ?_;have q:=(rel.val k).isSome_eq;rw[Option.isSome_map] at q;rw[<- q,<- l];exact h _ (I.tok _)
theorem Qd {h':Heap}{t':Nat}{ob:HO}(I:Inv X pins σ H s)(mu:Mut (H a))(hs:Heap.SameBut a s.heap h')(he:∃ q,h'.get? a=some q)(new:ObjOk X.prog X.w (upd H a ob) h' a ob) :
  Inv X pins σ (upd H a ob) {s with heap:=h',toks:=t'}:=
 I.write (x:=a) (e:=a) mu (.inl rfl) (λb q hb z=>(hs.2 b hb).trans z) he new
theorem Wh {P:Program}{w:World}{H':Hp}{h':Heap}{kvs:List (Key×V)}{vs:List (Key×Value)}(z:kvs.length<=sizeLine)(hd:(a==sysModules)=false)(rel:KV kvs vs)(dd:h'.DictOf (Ao P w) a vs) :
  ObjOk P w H' h' a (.dK kvs):=⟨z,hd,vs,rel,dd⟩
theorem Y5 {H':Hp}{Q:Unit->Shared->Prop}(hu:A.units+1<cLine)(I:Inv X pins σ H s)(g:DPut H a y v H')(ry:RelV y u)(rv:RelV v r)(h:∀ s',Inv X pins σ H' s'->Q () s') :
  wpAny (model X.prog X.w) A (setItem (.ref a) u r) Q E s:=by
 rcases g with ⟨kvs,k,e,ey,l,eH⟩|⟨kvs,k,b,e,ey,eb,l,eH⟩
 . subst ey eH;obtain⟨z,hd,vs,rel,dd⟩:=T7 I.hok e;have hz:vs.length<=sizeLine:=by rw[<- rel.length];exact z
   have hl:(Fs kvs k v).length<=sizeLine:=by have:=K9 kvs k v;omega
   refine wpAny_setItem_pairs (hsz:=hz) (Qn ry) dd λh' dd' hs=>h _ ?_;have he:∃ q,h'.get? a=some q:=let ⟨q,_,_,hq,_⟩:=dd';⟨q,hq⟩;exact Qd I (by rw[e];exact A1J) hs he (Wh hl hd (rel.put k rv) dd')
 subst ey eH
 cases (show u=Value.ref b from ry);obtain⟨z,hd,xs,rel,dd⟩:=aO8 I.hok e;have hz:xs.length<=sizeLine:=by rw[<- A2U rel];exact z
 have hl:(Fs kvs k v).length<=sizeLine:=by have:=K9 kvs k v;omega
 refine wpAny_setItem_heap (hsz:=hz) (A2P hu) (Ni I.hok eb) dd λh' dd' hs=>h _ ?_;obtain⟨q,es,ep,hq,h2,h3,h4,_,h5⟩:=dd';refine Qd I (by rw[e];exact A1J) hs ⟨q,hq⟩ ⟨hl,hd,_,(rel.put k eb rv).keeps λc ys ec=>?_,q,es,ep,hq,h2,h3,h4,h5⟩;rw[Ah (ne_of ec e (λz=>nomatch z))];exact ec
end
section
variable {X:Cx}{pins:List (Addr×Obj)}{σ:St}{H:Hp}{s:Shared}{a:Addr}{kvs:List (Key×V)}{k:Key}{u:Value}{A:Around}{E:Value->Shared->Prop}
theorem aM8 {Q:Value->Shared->Prop}(I:Inv X pins σ H s)(e:Rd H a (.dK kvs))(h:∀ t s',Inv X pins σ H s'->Q (.int kvs.length t) s'):wpAny (model X.prog X.w) A (call (.builtin "len") [.ref a]) Q E s:=by obtain⟨z,hd,vs,rel,dd⟩:=Qq I.hok e;refine call_len_dict hd dd (by rw[<- rel.length];rw[A1F] at z;omega) ?_;rw[<- rel.length];exact h _ _ (I.tok _)
end
theorem Uq {X:Cx}{pins:List (Addr×Obj)}{σ:St}{H:Hp}{s:Shared}{a:Addr}{y:V}{o:Option V}(I:Inv X pins σ H s)(g:DGet H a y o):s.TypeIs (.ref a) "dict":=by
 rcases g with ⟨kvs,k,e,_,_⟩|⟨kvs,k,b,e,_,_,_⟩
 . obtain⟨_,_,vs,_,dd⟩:=Qq I.hok e;exact dd.typeIs
 obtain⟨_,_,xs,_,dd⟩:=Sr I.hok e;exact dd.typeIs
def aJ6 (td ty tv:TE):TS:=λD σ H=>tv σ H λv H1=>td σ H1 λx H2=>ty σ H2 λy H3=>∃ a H4,x = .ref a/\DPut H3 a y v H4/\D.nx σ H4
section
variable {X:Cx}{o i e value:Expr}{pos pos' tpos:Pos}{td ty tv:TE}
theorem Gd (hu:X.A.units+1<cLine)(ho:PE X o td)(hi:PE X i ty)(hv:PE X value tv)(hs:swapsWith value (some (.Subscript o i pos')) pos.line X.env=pure false) :
  PS X (.Assign [.Subscript o i pos'] value pos) (aJ6 td ty tv):=by
 intro pins s σ H D I h;refine wpAny_Assign_Subscript (thn (hv pins s σ H _ I h) λr s1 ⟨v,H1,I1,rv,q1⟩=>thn (ho pins s1 σ H1 _ I1 q1) λu s2 ⟨x,H2,I2,rx,q2⟩=>thn (hi pins s2 σ H2 _ I2 q2) λiv s3 ⟨y,H3,I3,ry,a,H4,ex,g,q3⟩=>?_) hs;subst ex;obtain rfl:u=Value.ref a:=rx;exact Y5 hu I3 g ry rv λs4 I4=>⟨σ,H4,I4,q3⟩
end
theorem Wc {P:Program}{w:World}{H:Hp}(h:Heap)(hb:sysModules<h.objs.size):ObjOk P w H (h.push {cls:=.type "dict",data:=.dict #[]}) h.objs.size (.dK []):=
 ⟨A3G _,A0Y.mpr (Ne.symm (A0K hb)),[],.nil,Heap.DictOf.new h⟩
def ak6:TE:=λ_ H Q=>∀ p,H p=none->Q (.ref p) (upd H p (.dK []))
section
variable {X:Cx}{pos:Pos}
theorem Ml:PE X (.Dict [] [] pos) ak6:=λpins s σ H Q I h=>wpAny_Dict_empty ⟨.ref s.heap.objs.size,_,I.laid (a:=s.heap.objs.size) (o:=.dK []) (t':=s.toks) (λ_ _ q=>A01 _ q) (A07 _) (Wc s.heap I.big),rfl,h _ (I.hok.fresh (A07 _))⟩
end
def Na:List (TE×TE)->St->Hp->(List (V×V)->Hp->Prop)->Prop
 | [],_,H,Q=>Q [] H
 | (tk,tv) :: r,σ,H,Q=>tk σ H λx H1=>tv σ H1 λy H2=>Na r σ H2 λps H3=>Q ((x,y) :: ps) H3
abbrev VV:List (V×V)->List (Value×Value)->Prop:=Paired λp q=>RelV p.1 q.1/\RelV p.2 q.2
def PPs (X:Cx)(pos:Pos)(keys:List (Option Expr))(values:List Expr)(trs:List (TE×TE)):Prop:=
 ∀(pins:List (Addr×Obj)) (s:Shared) (σ:St) (H:Hp) (Q:List (V×V)->Hp->Prop),Inv X pins σ H s->Na trs σ H Q ->
  wpAny (model X.prog X.w) X.A (evalPairs (pairTrees keys values X.env pos)) (λvs s'=>∃ ps H',Inv X pins σ H' s'/\VV ps vs/\Q ps H') X.xe s
theorem Ny {X:Cx}{pos:Pos}:PPs X pos [] [] []:=λpins s σ H Q I h=>pairTrees_nil_walk ⟨[],H,I,.nil,h⟩
theorem Gj {X:Cx}{pos:Pos}{k v:Expr}{ks:List (Option Expr)}{vs:List Expr}{tk tv:TE}{trs:List (TE×TE)}(hk:PE X k tk)(hv:PE X v tv)(hr:PPs X pos ks vs trs) :
  PPs X pos (some k :: ks) (v :: vs) ((tk,tv) :: trs):=λpins s σ H Q I h=>
 pairTrees_cons_walk (thn (hk pins s σ H _ I h) λu s1 ⟨x,H1,I1,rx,q1⟩=>thn (hv pins s1 σ H1 _ I1 q1) λw2 s2 ⟨y,H2,I2,ry,q2⟩=>thn (hr pins s2 σ H2 _ I2 q2) λws s3 ⟨ps,H3,I3,rel,q3⟩=>⟨(x,y) :: ps,H3,I3,.cons ⟨rx,ry⟩ rel,q3⟩)
def Gf (kvs more:List (Key×V)):List (Key×V):=more.foldl (λacc kv=>Fs acc kv.1 kv.2) kvs
theorem KV.merge:∀ {more:List (Key×V)} {rs:List (Key×Value)} {kvs:List (Key×V)} {vs:List (Key×Value)},KV more rs->KV kvs vs->KV (Gf kvs more) (merged vs rs):=by
 intro more rs kvs vs r;unfold KV at r
 induction r generalizing kvs vs with
 |nil=>intro q;exact q
 |@cons p q ps qs h t ih=>
   intro r0
   have e:KV (Fs kvs p.1 p.2) (stored vs q.1 q.2):=by have:=r0.put p.1 h.2;rw[<- h.1];exact this
   exact ih e
theorem Ft:∀(more kvs:List (Key×V)),(Gf kvs more).length<=kvs.length+more.length
 | [],kvs=>by show kvs.length<=kvs.length+0;omega
 |p :: r,kvs=>by have h1:=Ft r (Fs kvs p.1 p.2);have h2:=K9 kvs p.1 p.2;show(Gf (Fs kvs p.1 p.2) r).length<=_;rw[A0N];omega
theorem Px {P:Program}{w:World}:∀ {kvs:List (Key×V)} {ws:List (Value×Value)},VV (kvs.map λkv=>(kV kv.1,kv.2)) ws->∃ rs,Carries (Ao P w) ws rs/\KV kvs rs
 | [], _,r=>by rw[A4Q] at r;cases r;exact⟨[],A1J,.nil⟩
 |p :: kvs,_,r=>by
   rw[A0H] at r
   cases r with
   |@cons a b as bs h t=>obtain⟨rs,c,q⟩:=Px (P:=P) (w:=w) t;obtain⟨b1,b2⟩:=b;exact⟨(p.1,b2) :: rs,⟨Qn h.1,rfl,c⟩,.cons ⟨rfl,h.2⟩ q⟩
def aJ5 (trs:List (TE×TE)):TE:=fun σ H Q=>∀ p,H p=none->Na trs σ (upd H p (.dK [])) λps H2=>H2 p=some (.dK [])/\∃ kvs:List (Key×V),ps=kvs.map (λkv=>(kV kv.1,kv.2))/\kvs.length<=15/\Q (.ref p) (upd H2 p (.dK (Gf [] kvs)))
theorem Nk {X:Cx}{pos:Pos}{keys:List (Option Expr)}{values:List Expr}{trs:List (TE×TE)}(h:PPs X pos keys values trs)(hall:keys.all (·.isSome)=true)(hl:keys.length=values.length)(h0:keys≠[])
  (h15:keys.length<=15):PE X (.Dict keys values pos) (aJ5 trs):=by
 intro pins s σ H Q I q;have hn:=I.hok.fresh (A07 s.heap.objs.size);have I1:=I.laid (a:=s.heap.objs.size) (o:=.dK []) (h':=s.heap.push {cls:=.type "dict",data:=.dict #[]}) (t':=s.toks) (λ_ _ q=>A01 _ q) (A07 _) (Wc s.heap I.big);refine wpAny_Dict_walk (knd:=Ao X.prog X.w) hall hl h0 h15 (thn (h pins _ σ _ _ I1 (q _ hn)) λws s2 ⟨ps,H2,I2,rel,e,kvs,ep,lk,q2⟩=>?_);subst ep;obtain⟨rs,c,rk⟩:=Px (P:=X.prog) (w:=X.w) rel;obtain⟨z,hd,vs0,r0,dd⟩:=T7 I2.hok e
 cases r0;refine⟨rs,c,dd,λh' dd' hs=>⟨.ref s.heap.objs.size,_,?_,rfl,q2⟩⟩
 have hz:(Gf [] kvs).length<=sizeLine:=by have h1:=Ft kvs [];rw[List.length_nil] at h1;rw[A1F];omega
 have he:∃ q,h'.get? s.heap.objs.size=some q:=let ⟨q,_,_,hq,_⟩:=dd';⟨q,hq⟩;exact Qd I2 (by rw[e];exact A1J) hs he (Wh hz hd (rk.merge .nil) dd')
structure M1 (X:Cx)(o:Expr)(m:Str)(apos:Pos)(e:Expr)(cpos:Pos):Prop where
 base:attributeBase o m X.env (eval o X.env)=eval o X.env
 few:((backTo cpos (starEach [e] X.env)).all (λx=>!x.1)&&(backToKw cpos (keywordEach [] X.env)).all (λx=>x.1.isSome)
  && decide (([e]:List Expr).length+([]:List Keyword).length+(if([]:List Keyword).isEmpty then 0 else 1)<30))=true
 line:(apos.endLine==cpos.line)=true
 trees:backTo cpos (starEach [e] X.env)=[(false,eval e X.env)]
structure M2 (X:Cx)(o:Expr)(m:Str)(apos:Pos)(e f:Expr)(cpos:Pos):Prop where
 base:attributeBase o m X.env (eval o X.env)=eval o X.env
 few:((backTo cpos (starEach [e,f] X.env)).all (λx=>!x.1)&&(backToKw cpos (keywordEach [] X.env)).all (λx=>x.1.isSome)
  && decide (([e,f]:List Expr).length+([]:List Keyword).length+(if([]:List Keyword).isEmpty then 0 else 1)<30))=true
 line:(apos.endLine==cpos.line)=true
 trees:backTo cpos (starEach [e,f] X.env)=[(false,eval e X.env),(false,eval f X.env)]
def IsD (H:Hp)(a:Addr):Prop:=(∃ kvs,Rd H a (.dK kvs))\/∃ kvs,Rd H a (.dT kvs)
theorem ai2 {X:Cx}{pins:List (Addr×Obj)}{σ:St}{H:Hp}{s:Shared}{a:Addr}(I:Inv X pins σ H s)(d:IsD H a) :
  s.TypeIs (.ref a) "dict" /\ (∀ b,Value.ref a = .ref b->∃ ob,s.heap.get? b=some ob/\ob.dict=none)/\(a==sysModules)=false:=by
 rcases d with ⟨kvs,e⟩|⟨kvs,e⟩
 . obtain⟨_,hd,vs,_,dd⟩:=Qq I.hok e;refine⟨dd.typeIs,λb q=>?_,hd⟩
   cases q;obtain⟨ob,_,_,h1,h2,_⟩:=dd;exact⟨ob,h1,h2.2.1⟩
 obtain⟨_,hd,xs,_,dd⟩:=Sr I.hok e;refine⟨dd.typeIs,λb q=>?_,hd⟩
 cases q;obtain⟨ob,_,_,h1,h2,_⟩:=dd;exact⟨ob,h1,h2.2.1⟩
section
variable {X:Cx}{pins:List (Addr×Obj)}{σ:St}{H:Hp}{s:Shared}{a:Addr}{y d:V}{u r:Value}{o:Option V}{A:Around}{E:Value->Shared->Prop}
theorem aB8 {Q:Value->Shared->Prop}(hu:A.units+1<cLine)(I:Inv X pins σ H s)(g:DGet H a y o)(ry:RelV y u)(h:∀ w' s',Inv X pins σ H s'->RelV (o.getD .non) w'->Q w' s') :
  wpAny (model X.prog X.w) A (call (.builtin "dict.get") [.ref a,u]) Q E s:=by
 rcases g with ⟨kvs,k,e,ey,l⟩|⟨kvs,k,b,e,ey,eb,l⟩
 . subst ey;obtain⟨z,hd,vs,rel,dd⟩:=Qq I.hok e;refine A3O A28 dd.typeIs A3E (PySem.F.args_dict_get_2 _ _) (meets_dict_get (Ao X.prog X.w) a (Qn ry) hd) ⟨_,dd.mapOf,h _ _ (I.tok _) ?_⟩;rw[l];exact(rel.val k).getD rfl
 subst ey
 cases (show u=Value.ref b from ry);obtain⟨z,hd,xs,rel,dd⟩:=Sr I.hok e;refine A3O A28 dd.typeIs A3E (PySem.F.args_dict_get_2 _ _) (meetsH_dict_get (tupleKind (Ao X.prog X.w)) a b hd) ⟨A2P hu,k,xs,Ni I.hok eb,dd,h _ _ (I.tok _) ?_⟩;rw[l];exact(rel.val k).getD rfl
theorem aJ8 {Q:Value->Shared->Prop}(hu:A.units+1<cLine)(I:Inv X pins σ H s)(g:DGet H a y o)(ry:RelV y u)(rd:RelV d r)(h:∀ w' s',Inv X pins σ H s'->RelV (o.getD d) w'->Q w' s') :
  wpAny (model X.prog X.w) A (call (.builtin "dict.get") [.ref a,u,r]) Q E s:=by
 rcases g with ⟨kvs,k,e,ey,l⟩|⟨kvs,k,b,e,ey,eb,l⟩
 . subst ey;obtain⟨z,hd,vs,rel,dd⟩:=Qq I.hok e;refine A3O A28 dd.typeIs A3E (PySem.F.args_dict_get_3 _ _ _) (meets_dict_get_default (Ao X.prog X.w) a (Qn ry) hd r) ⟨_,dd.mapOf,h _ _ (I.tok _) ?_⟩;rw[l];exact(rel.val k).getD rd
 subst ey
 cases (show u=Value.ref b from ry);obtain⟨z,hd,xs,rel,dd⟩:=Sr I.hok e;refine A3O A28 dd.typeIs A3E (PySem.F.args_dict_get_3 _ _ _) (meetsH_dict_get_default (tupleKind (Ao X.prog X.w)) a b hd r) ⟨A2P hu,k,xs,Ni I.hok eb,dd,h _ _ (I.tok _) ?_⟩;rw[l];exact(rel.val k).getD rd
end
def aj0 (td ty:TE):TE:=fun σ H Q=>td σ H λx H1=>∃ a,x = .ref a/\IsD H1 a/\ty σ H1 λy H2=>∃ o,DGet H2 a y o/\Q (o.getD .non) H2
def aj4 (td ty tx:TE):TE:=fun σ H Q=>td σ H λx H1=>∃ a,x = .ref a/\IsD H1 a/\ty σ H1 λy H2=>tx σ H2 λz H3=>∃ o,DGet H3 a y o/\Q (o.getD z) H3
section
variable {X:Cx}{o e f:Expr}{apos cpos:Pos}{td ty tx:TE}
theorem ae5 (hu:X.A.units+1<cLine)(ho:PE X o td)(he:PE X e ty)(m:M1 X o "get" apos e cpos):PE X (.Call (.Attribute o "get" apos) [e] [] cpos) (aj0 td ty):=by intro pins s σ H Q I h;refine wpAny_Call_method m.base m.few m.line A37 A28 PySem.F.type_dict_get (thn (ho pins s σ H _ I h) λu s1 ⟨x,H1,I1,rx,a,ex,d,q1⟩=>?_);subst ex;obtain rfl:u=Value.ref a:=rx;obtain⟨t1,t2,_⟩:=ai2 I1 d;refine⟨t1,t2,?_⟩;rw[m.trees];refine A3D rfl (A4X (A2N (thn (he pins s1 σ H1 _ I1 q1) λiv s2 ⟨y,H2,I2,ry,ov,g,q2⟩=>A3H ?_)));exact aB8 hu I2 g ry λw' s3 I3 rw'=>⟨_,H2,I3,rw',q2⟩
theorem ad1 (hu:X.A.units+1<cLine)(ho:PE X o td)(he:PE X e ty)(hf:PE X f tx)(m:M2 X o "get" apos e f cpos):PE X (.Call (.Attribute o "get" apos) [e,f] [] cpos) (aj4 td ty tx):=by
 intro pins s σ H Q I h;refine wpAny_Call_method m.base m.few m.line A37 A28 PySem.F.type_dict_get (thn (ho pins s σ H _ I h) λu s1 ⟨x,H1,I1,rx,a,ex,d,q1⟩=>?_);subst ex;obtain rfl:u=Value.ref a:=rx;obtain⟨t1,t2,_⟩:=ai2 I1 d;refine⟨t1,t2,?_⟩;rw[m.trees]
 refine A3D rfl (A4X (A2N (thn (he pins s1 σ H1 _ I1 q1) λiv s2 ⟨y,H2,I2,ry,q2⟩=>A2N (thn (hf pins s2 σ H2 _ I2 q2) λfv s3 ⟨z,H3,I3,rz,ov,g,q3⟩=>A3H ?_))))
 exact aJ8 hu I3 g ry rz λw' s4 I4 rw'=>⟨_,H3,I4,rw',q3⟩
end
section
variable {X:Cx}{pins:List (Addr×Obj)}{σ:St}{H:Hp}{s:Shared}{a:Addr}{kvs:List (Key×V)}{A:Around}{E:Value->Shared->Prop}
end
section
variable {X:Cx}{pins:List (Addr×Obj)}{σ:St}{H:Hp}{s:Shared}{a:Addr}{y:V}{u:Value}{A:Around}{E:Value->Shared->Prop}
end
end L2
namespace Att
open PySem PySem.W PySem.Calls PyProof.Rows
theorem Nv {P:Params}{h:Heap}:∀(ns:List Int) (vs:List Value),WellAll P h vs (ns.map WData.int)->IntsAre vs ns:=by
 intro ns
 induction ns with
 |nil=>
   intro vs w;rw[A4Q] at w
   cases w;exact .nil
 |cons n ns ih=>
   intro vs w;rw[A0H] at w
   cases w with
   |cons a b=>cases a;exact .cons _ _ (ih _ b)
theorem a49 {l:OpenLaw}{n:Nat}(hn:l.most=some n){P:Params}{h:Heap}{args:List WData}{vals:List Value}
  (hpre:l.row.toRowW.claim.pre args=true) (hwl:WellAll P h vals args) :
  ∃ a vs ns,vals=[Value.ref a]/\args=[WData.list (ns.map WData.int)]/\h.get? a=some {cls:=.type "list",data:=.seq vs.toArray}/\IntsAre vs ns/\ns.length<=n:=by
 have hsh:WShape.hasAll [] args [.list .int]=true:=(pre_splitW hpre).1;have hc:l.pre.holds [] {args:=args}=true:=(pre_splitW hpre).2;obtain⟨d,r,rfl,h1,h2⟩:=hasAllW_cons hsh;obtain rfl:=hasAllW_nil h2;obtain⟨xs,rfl,h3⟩:=hasW_list h1;obtain⟨ns,rfl⟩:=items_int h3
 have hlen:ns.length<=n:=by
  unfold OpenLaw.pre at hc
  have h4:(WTm.not (.lt (.lit (.int (n:Int))) (.len (.arg 0)))).holds [] {args:=[.list (ns.map .int)]}=true:=by have h4:=(holds_andW hc).1;rw[hn] at h4;exact h4
  have h5:=condW_of h4 (w_not (w_lt w_lit (w_len_list (w_arg rfl))));rw[A02] at h5;refine Nat.le_of_not_lt λq=>?_;have q':(n:Int)<((ns.length:Nat):Int):=by omega
  first
   | (rw[A0Z q'] at h5;exact absurd h5 ∅)
   | (simp at h5;omega)
 cases hwl with
 |cons w1 w2=>
   cases w2
   cases w1 with
   |list ho hall=>exact⟨_,_,ns,rfl,rfl,ho,Nv ns _ hall,hlen⟩
theorem a90 (l:OpenLaw)(args:List WData):l.row.toRowW.claim.post args (.bool true) args=true:=
 postW_of (r:=l.row.toRowW) (X:=(true==true))
  (show WShape.has [] (.bool true) .bool=true by first | rfl | decide | simp[WShape.has,WShape.arms,WShape.armsAll])
  (show(WTm.eq .res (.lit (.bool true))).value [] {args:=args,res:=some (.bool true),after:=args}=some (.bool (true==true)) from w_eq_bool (w_res rfl) w_lit) rfl
theorem attach_call {l:OpenLaw}{n:Nat}{q:Program}{loose:List Str}{XP:(Str->Option Value)->Heap->Prop}{YP:World->Heap->Prop}{d:DefRec}
  (hn:l.most=some n) (hdf:d.params.defaults=[])
  (call:∀(w:World) (s₀ s₁:Shared) (mg mb:Str->Option Value) (fa:Addr) (o:Obj) (pm cd doc:Value) (a:Addr) (vs:List Value) (ns:List Int),
   Ground q loose [] XP w s₀ mg mb s₁.heap->YP w s₁.heap ->
   s₁.heap.get? fa=some o->o.data = .func (docDef d.name d.params d.body d.scope pm cd doc)->s₁.heap.CodeRec cd d.name->mg d.name=some (.ref fa) ->
   s₁.heap.get? a=some {cls:=.type "list",data:=.seq vs.toArray}->IntsAre vs ns->ns.length<=n->s₁.gens = #[] ->
   codeAny (model l.prog w) callerA (.call (.ref fa) ⟨[.ref a],[]⟩) (λr s'=>r = .ok (.ret (.bool true))/\OldK s₁.heap s'.heap/\s'.os=s₁.os/\AllBare s'.gens) s₁) :
  WalkO q loose XP YP l.row.toRowW d [] (λf vs=>PySem.call f vs):=by
 intro w s₀ s₁ mg mb G Y fa o pm cd doc dV kV ho hd hcd hD hmg hg args vals as hpre hlay hrd hwl hlo;obtain rfl:dV = .none:=Dflts.none hD hdf;obtain rfl:kV = .none:=Dflts.noKw hD;obtain⟨a,vs,ns,rfl,rfl,hobj,hints,hlen⟩:=a49 hn hpre hwl;refine enter_call (A34 (call w s₀ s₁ mg mb fa o pm cd doc a vs ns G Y ho (fd_plain hd) hcd hmg hobj hints hlen hg) λr s' hq=>?_);obtain⟨rfl,h2,h3,h4⟩:=hq;exact⟨.inl ⟨.bool true,.bool true,[],rfl,λ_=>rfl,.bool true,a90 l _,λ_=>⟨List.Pairwise.nil,λ_ hm=>(nomatch hm)⟩⟩,h2,h3,h4⟩
section
variable {prog:Program}{w:World}{A:Around}{E:Value->Shared->Prop}{s:Shared}{K:Frag}
end
end Att
namespace L2
open PySem PySem.Spec PyProof.Rows
theorem Sl:∀ {vs:List Value} {ns:List Int},IntsAre vs ns->Vals (ns.map V.int) vs
 |_,_,.nil=>.nil
 |_,_,.cons n t h=>.cons ⟨t,rfl⟩ (Sl h)
def Ce (s:Stmt)(j:Nat):Stmt:=match s with
 |.ClassDef _ _ _ body _ _ _ _ _ _ _=>body.getD j (.Pass ⟨0,0,0,0⟩)
 |_=>.Pass ⟨0,0,0,0⟩
def Ac (s:Stmt):Arguments:=match s with
 |.FunctionDef _ a _ _ _ _ _ _ _ _=>a
 |_=>{posonlyargs:=[],args:=[],vararg:=none,kwonlyargs:=[],kw_defaults:=[],kwarg:=none,defaults:=[]}
def Aa (s:Stmt):List Stmt:=match s with
 |.FunctionDef _ _ b _ _ _ _ _ _ _=>b
 |_=>[]
def A4 (s:Stmt):Scope:=match s with
 |.FunctionDef _ _ _ _ _ _ sc _ _ _=>sc
 |_=>{kind:=.function,names:=[],isGenerator:=false,isCoroutine:=false}
abbrev CX0:CXT:=λ_ _ _ _ _ _=>False
abbrev E0:XK:=λ_ _ _=>False
theorem aa7 {X:Cx}:Gh CX0 X E0:=λ_ _ _ _ _ _ _ h=>h.elim
structure Fun (K:W.Frag)(x qual:Str)(st:Stmt)(f:Addr)(fd:FuncData):Prop where
 ex:∃(oc:Value) (od:Option Addr) (kV doc pm:Value) (an:Option Addr) (cdv ct:Value) (osl:Array (Option Value)),
  fd=W.fnOf x qual (Ac st) (Aa st) (A4 st) .none kV doc pm an cdv ct/\K.lookup f=some ⟨oc,od,.func fd,osl⟩/\W.codeIn K cdv qual=true
 kp:W.keepIn K (.ref f)=true
section
variable {P:Program}{w:World}{K:W.Frag}{mg:Str->Option Value}{base:Heap}
theorem Fun.ok {x qual:Str}{st:Stmt}{f:Addr}{fd:FuncData}{N ps:List Str}{k:Nat}{sp:Sp}(F:Fun K x qual st f fd)(S:Ag N ps (A4 st))(len:∀ vs H Q E,sp vs H Q E->vs.length=ps.length)
  (hbody:∀(cdv:Value) (A:Around) (outer:List Env) (s:Shared) (H:Hp) (vs:List V) (Q:VK) (E:XK),Room k (A.deeper (envOfC qual (A4 st) s.heap.objs.size f cdv))->sp vs H Q E ->
   ∃ t,PSs (Ul CX0 P w K mg base N qual (A4 st) f cdv A outer s H E).nox (Aa st) t/\t {nx:=λ_ H'=>Q .non H',rt:=Q} (start N vs) H):FnOk P w K mg base CX0 (k+1) f fd ps sp:=by
 obtain⟨oc,od,kV,doc,pm,an,cdv,ct,osl,rfl,lk,hcd⟩:=F.ex;refine av9 lk hcd S len λA outer s H vs Q E hr hsp=>?_;obtain⟨t,h,q⟩:=hbody cdv A outer s H vs Q E hr hsp;exact⟨t,h.nox,q⟩
theorem Fun.binds {x qual:Str}{st:Stmt}{f:Addr}{fd:FuncData}{ps:List Str}(F:Fun K x qual st f fd)
  (h:∀(kV doc pm:Value) (an:Option Addr) (cdv ct:Value) (us:List Value),us.length=ps.length->bindArgs (W.fnOf x qual (Ac st) (Aa st) (A4 st) .none kV doc pm an cdv ct) ⟨us,[]⟩=pure (ps.zip us)):Binds K fd ps []:=by
 obtain⟨oc,od,kV,doc,pm,an,cdv,ct,osl,rfl,lk,hcd⟩:=F.ex;exact .all (h kV doc pm an cdv ct)
theorem Au {x qual:Str}{st:Stmt}{f:Addr}{oc:Value}{od an:Option Addr}{osl:Array (Option Value)}{kV doc pm cdv ct:Value}(l:K.lookup f=some ⟨oc,od,.func (W.fnOf x qual (Ac st) (Aa st) (A4 st) .none kV doc pm an cdv ct),osl⟩)
  (c:W.codeIn K cdv qual=true) (k:W.keepIn K (.ref f)=true):Fun K x qual st f (W.fnOf x qual (Ac st) (Aa st) (A4 st) .none kV doc pm an cdv ct):=⟨⟨oc,od,kV,doc,pm,an,cdv,ct,osl,rfl,l,c⟩,k⟩
end
theorem Cg {A:Around}{k:Nat}(hr:Room k A):A.units+1<cLine:=Nat.lt_of_le_of_lt (Nat.add_le_add_left (by decide:1<=64) _) hr.units
theorem a89 {n:Nat}(h:n<=1000):n<sizeLine:=Nat.lt_of_le_of_lt h ∅
section
variable {X:Cx}
theorem pv (i:Nat){x:Str}{pos:Pos}(hN:X.N[i]? = some x:=by ac_nf)(hv:Vis X.env.scope x:=by with_unfolding_all first | exact Or.inl rfl | exact A3W (Or.inl rfl) | exact A3W (A3W rfl))(hd:(x==("__debug__":Str))=false:=by decide)
  (hcd:(x==("__classdict__":Str))=false:=by decide):PE X (.Name x pos) (aN1 i):=aJ2 hN hv hd hcd
end
theorem iteF {A B:Prop}(h:B):if false=true then A else B:=by rw[A0J A0F];exact h
theorem iteT {A B:Prop}(h:A):if true=true then A else B:=by rw[A0R rfl];exact h
theorem aR4 {c A B:Prop}[Decidable c](h1:c->A)(h2:¬ c->B):if c then A else B:=by
 by_cases h:c
 . rw[A0R h];exact h1 h
 rw[A0J h];exact h2 h
def Same (H H':Hp):Prop:=∀ b o,H b=some o->H' b=some o
theorem Same.refl (H:Hp):Same H H:=λ_ _ h=>h
theorem Same.trans {H H1 H2:Hp} (a:Same H H1) (b:Same H1 H2):Same H H2:=λc o h=>b c o (a c o h)
theorem Same.free {H H':Hp}(e:Same H H'){l:Addr}(h:H' l=Option.none):H l=Option.none:=by
 cases q:H l with
 |none=>rfl
 |some o=>
   rw[e l o q] at h
   cases h
theorem Same.seq {K:W.Frag}{H H':Hp}{a:Addr}{xs:List V}(e:Same H H')(h:SqL K H a xs):SqL K H' a xs:=by
 rcases h with (h|⟨o,h⟩)|h
 . exact .inl (.inl (e _ _ h))
 . exact .inl (.inr ⟨o,e _ _ h⟩)
 exact .inr h
section
variable {X:Cx}
theorem Zz:CallR X (.builtin "len") (λxs H Q=>∃ a kvs,xs=[V.ref a]/\H a=some (.dK kvs)/\Q (.int kvs.length) H):=by
 intro pins s σ H xs us Q I r h;obtain⟨a,kvs,rfl,ha,q⟩:=h;obtain⟨u,rfl,ru⟩:=K6 r
 cases ru;exact aM8 I (.inl ha) λt s' I'=>⟨.int kvs.length,H,I',⟨t,rfl⟩,q⟩
end
section
variable {κ:Type}[DecidableEq κ]
theorem a99 {kvs:List (κ×V)}{k:κ}(h:Dj kvs k=none):¬ k∈kvs.map (·.1):=by intro m;obtain⟨p,hp,e⟩:=A0E.mp m;have q:(kvs.any λkv=>decide (kv.1=k))=true:=A1Z.mpr ⟨p,hp,A0Z e⟩;rw [Hv,h] at q;exact absurd q (by simp)
theorem Z9:∀ {l:List κ} {k:κ},l.Nodup->¬ k∈l->(l++[k]).Nodup
 | [],k,_,_=>by simp
 |a :: r,k,h,hk=>by
   obtain⟨h1,h2⟩:=A0P.mp h;show(a :: (r++[k])).Nodup;refine A0P.mpr ⟨λm=>?_,Z9 h2 λm=>hk (A0C.mpr (A3W m))⟩;rcases A0G.mp m with q|q
   . exact h1 q
   exact hk (A0C.mpr (Or.inl (A29.mp q).symm))
theorem at4 {kvs:List (κ×V)}{k:κ}(v:V)(hn:(kvs.map (·.1)).Nodup)(h:Dj kvs k=none):((Fs kvs k v).map (·.1)).Nodup:=by rw[L6 v h,A16];exact Z9 hn (a99 h)
end
def Me (env:Env)(names:List (Str×NameKind))(acc:List (Str×Addr)):List (Str×Addr):=
 names.foldl (λacc y=>if y.2==NameKind.free then(y.1,(env.cells.lookup y.1).getD 0) :: acc else acc) acc
theorem Pg {env:Env}{scope:Scope}(h:∀ y∈scope.names,y.2=NameKind.free->∃ c,env.cells.lookup y.1=some c):closureFor scope env=pure (Me env scope.names []):=by
 have all:∀(names:List (Str×NameKind)) (acc:List (Str×Addr)),(∀ y∈names,y.2=NameKind.free->∃ c,env.cells.lookup y.1=some c) ->
   (forIn names acc λ(y:Str×NameKind) (cs:List (Str×Addr))=>(match y with
    | (name,kind)=>if(kind==NameKind.free)=true then do let c <- cellOf env name;pure (ForInStep.yield ((name,c) :: cs)) else pure (ForInStep.yield cs):Sem (ForInStep (List (Str×Addr)))))=(pure (Me env names acc):Sem (List (Str×Addr))):=by
  intro names
  induction names with
  |nil=>intro acc _;rfl
  |cons y r ih=>
    intro acc hy;obtain⟨n,k⟩:=y;rw[List.forIn_cons]
    by_cases hk:k=NameKind.free
    . subst hk;obtain⟨c,hc⟩:=hy (n,.free) A0M rfl;have e:cellOf env n=pure c:=by unfold cellOf;rw[show env.cells.lookup n=some c from hc]
      have e2:Me env ((n,NameKind.free) :: r) acc=Me env r ((n,c) :: acc):=by unfold Me;rw[A4M];simp only[beq_self_eq_true,if_true];rw[show env.cells.lookup n=some c from hc];rfl
      rw[e2,<- ih ((n,c) :: acc) λz hz=>hy z (A0B _ hz)];simp only[beq_self_eq_true,if_true,e];rfl
    have hb:(k==NameKind.free)=false:=by simpa using hk
    have e2:Me env ((n,k) :: r) acc=Me env r acc:=by unfold Me;rw[A4M];simp only[hb,Bool.false_eq_true,if_false]
    rw[e2,<- ih acc λz hz=>hy z (A0B _ hz)];simp only[hb,Bool.false_eq_true,if_false];rfl
 have q:=all scope.names [] h;unfold closureFor
 first
  |exact q
  | (simp only[bind_pure];exact q)
  | (refine Eq.trans ?_ q;rfl)
theorem Vv {env:Env}{x:Str}{c:Addr}:∀ {names:List (Str×NameKind)} {acc:List (Str×Addr)},(∀ y∈names,y.2=NameKind.free->∃ c,env.cells.lookup y.1=some c)->(acc.lookup x=some c->env.cells.lookup x=some c) ->
  (Me env names acc).lookup x=some c->env.cells.lookup x=some c
 | [],acc,_,ha,h=>ha h
 | (n,k) :: r,acc,hn,ha,h=>by
   have e:Me env ((n,k) :: r) acc=Me env r (if k==NameKind.free then(n,(env.cells.lookup n).getD 0) :: acc else acc):=rfl
   rw[e] at h;refine Vv (λy hy=>hn y (A0B _ hy)) (λq=>?_) h
   by_cases hk:k=NameKind.free
   . subst hk;simp only[beq_self_eq_true,if_true,List.lookup_cons] at q;obtain⟨d,hd⟩:=hn (n,.free) A0M rfl;have hd':env.cells.lookup n=some d:=hd
     split at q
     . rename_i hx;have hx':x=n:=A24.mp hx;rw[hd'] at q;rw[hx',hd'];exact q
     exact ha q
   have hb:(k==NameKind.free)=false:=by simpa using hk
   simp only[hb,Bool.false_eq_true,if_false] at q;exact ha q
theorem Qu {env:Env}{x:Str}:∀ {names:List (Str×NameKind)} {acc:List (Str×Addr)},((∃ c,acc.lookup x=some c)\/(x,NameKind.free)∈names)->∃ c,(Me env names acc).lookup x=some c
 | [],acc,h=>by
   rcases h with h|h
   . exact h
   cases h
 | (n,k) :: r,acc,h=>by
   have e:Me env ((n,k) :: r) acc=Me env r (if k==NameKind.free then(n,(env.cells.lookup n).getD 0) :: acc else acc):=rfl
   rw[e];refine Qu ?_
   by_cases hk:k=NameKind.free
   . subst hk;simp only[beq_self_eq_true,if_true,List.lookup_cons]
     by_cases hx:x=n
     . left;have hb:(x==n)=true:=A24.mpr hx;rw[hb];exact⟨_,rfl⟩
     have hb:(x==n)=false:=A0Y.mpr hx;rw[hb];rcases h with h|h
     . exact .inl h
     rcases A0C.mp h with q|q
     . cases q;exact absurd rfl hx
     exact .inr q
   have hb:(k==NameKind.free)=false:=by simpa using hk
   simp only[hb,Bool.false_eq_true,if_false];rcases h with h|h
   . exact .inl h
   rcases A0C.mp h with q|q
   . cases q;exact absurd rfl hk
   exact .inr q
theorem Eg:∀(names:List (Str×NameKind)) (n:Nat) (acc:List (Str×Addr)),cellsFrom n names acc=cellsFrom n names []++acc
 | [],_,_=>rfl
 | (x,k) :: r,n,acc=>by
   unfold cellsFrom
   split
   . rw[Eg r (n+1) ((x,n) :: acc),Eg r (n+1) [(x,n)],A2V];rfl
   exact Eg r n acc
theorem Lf {x:Str}{c:Addr}:∀ {names:List (Str×NameKind)} {n:Nat},(x,c)∈cellsFrom n names []->(x,NameKind.cell)∈names
 | [],_,h=>by cases h
 | (y,k) :: r,n,h=>by
   unfold cellsFrom at h
   split at h
   . rename_i hk;rw[Eg] at h;rcases A0G.mp h with h|h
     . exact A0B _ (Lf h)
     have e:=A29.mp h
     cases e;rw[A24.mp hk];exact A0M
   exact A0B _ (Lf h)
theorem Nq {α:Type}{x:Str}{c:α}:∀ {l:List (Str×α)},(x,c)∈l->∃ d,l.lookup x=some d
 | [],h=>by cases h
 | (y, d) :: r,h=>by
   rw[A1N]
   cases e:x==y with
   |true=>exact⟨d,rfl⟩
   |false=>
     rcases A0C.mp h with q|q
     . cases q;simp at e
     exact Nq q
theorem Kt {x:Str}:∀ {names:List (Str×NameKind)} {n:Nat},(x,NameKind.cell)∈names->∃ c,(x,c)∈cellsFrom n names []
 | [],_,h=>by cases h
 | (y,k) :: r,n,h=>by
   unfold cellsFrom
   split
   . rw[Eg];rcases A0C.mp h with q|q
     . cases q;exact⟨n,List.mem_append_right _ (by simp)⟩
     obtain⟨c,hc⟩:=Kt (n:=n+1) q;exact⟨c,A0X _ hc⟩
   rename_i hk;rcases A0C.mp h with q|q
   . cases q;exact absurd rfl hk
   exact Kt q
def Wp (outer scope:Scope)(xs fr:List Str):Bool:=
 (scope.kind == .function)&&(outer.kind == .function)&&decide (scope.names.map (·.1)).Nodup
 && (scope.names.all λy=>y.2 != .local||scope.names.lookup y.1==some .local)
 && (scope.names.all λy=>y.2 != .free||(outer.names.lookup y.1==some .cell||outer.names.lookup y.1==some .free))
 && (scope.names.all λy=>y.2 != .free||scope.names.lookup y.1==some .free)
 && (xs.all λx=>scope.names.lookup x==some .local||scope.names.lookup x==some .cell)&&(fr.all λx=>scope.names.lookup x==some .free)&&decide (xs++fr).Nodup
theorem Ee {α:Type}{x:Str}{v:α}:∀ {l:List (Str×α)},l.lookup x=some v->(x,v)∈l
 | [],h=>by cases h
 | (n,k) :: r,h=>by
   rw[A1N] at h
   split at h
   . rename_i hx;have hx':x=n:=A24.mp hx
     cases h;rw[hx'];exact A0M
   exact A0B _ (Ee h)
theorem Ju {scope:Scope}{env:Env}{x:Str}{k:NameKind}(hk:env.scope.kind = .function):∀ {names:List (Str×NameKind)},names.lookup x=some k ->
  (names.map λ(n,k)=>if(k==NameKind.free&&env.scope.kind == .function&&env.kindOf n==some .cell) then(n,NameKind.cell) else(n,k)).lookup x=some (if(k==NameKind.free&&env.kindOf x==some .cell) then .cell else k)
 | [],h=>by cases h
 | (n,j) :: r,h=>by
   have ih:=@Ju scope env x k hk r;rw[A0H];rw[A1N] at h;dsimp only
   split at h
   . rename_i hx;have hx':x=n:=A24.mp hx
     cases h;subst hx'
     by_cases hc:(k==NameKind.free&&env.scope.kind == .function&&env.kindOf x==some .cell)=true
     . have hc2:(k==NameKind.free&&env.kindOf x==some .cell)=true:=by rw[A19,A19] at hc;rw[A19];exact⟨hc.1.1,hc.2⟩
       rw[A0R hc,A0R hc2,A1N,A2M]
     have hc2:¬ (k==NameKind.free&&env.kindOf x==some .cell)=true:=λq=>hc (by rw[A19] at q;rw[A19,A19,hk];exact⟨⟨q.1,rfl⟩,q.2⟩)
     rw[A0J hc,A0J hc2,A1N,A2M]
   rename_i hx;have hx':(x==n)=false:=by simpa using hx
   by_cases hc:(j==NameKind.free&&env.scope.kind == .function&&env.kindOf n==some .cell)=true
   . rw[A0R hc,A1N,hx'];exact ih h
   rw[A0J hc,A1N,hx'];exact ih h
theorem He {env:Env} {x:Str} {k:NameKind}:∀ {names:List (Str×NameKind)},
  (names.map λ(n,k)=>if(k==NameKind.free&&env.scope.kind == .function&&env.kindOf n==some .cell) then(n,NameKind.cell) else(n,k)).lookup x=some k ->
  ∃ j,names.lookup x=some j/\(k=j\/(j = .free/\k = .cell))
 | [],h=>by cases h
 | (n,j) :: r,h=>by
   have ih:=@He env x k r;rw[A0H] at h;dsimp only at h
   by_cases hc:(j==NameKind.free&&env.scope.kind == .function&&env.kindOf n==some .cell)=true
   . rw[A0R hc,A1N] at h
     have hj:j = .free:=by rw[A19,A19] at hc;exact A24.mp hc.1.1
     rw[A1N]
     split at h
     . rename_i hx
       cases h;exact⟨j,rfl,.inr ⟨hj,rfl⟩⟩
     rename_i hx;have hx':(x==n)=false:=by simpa using hx
     exact ih h
   rw[A0J hc,A1N] at h;rw[A1N]
   split at h
   . rename_i hx
     cases h;exact⟨_,rfl,.inl rfl⟩
   rename_i hx;have hx':(x==n)=false:=by simpa using hx
   exact ih h
structure CompS (X:Cx)(scope:Scope)(xs fr:List Str):Prop where
 kind:scope.kind = .function
 okind:X.env.scope.kind = .function
 uniq:(scope.names.map (·.1)).Nodup
 names:∀ y∈scope.names,y.2 = .local->scope.names.lookup y.1=some .local
 free:∀ y∈scope.names,y.2 = .free->X.env.kindOf y.1=some .cell\/X.env.kindOf y.1=some .free
 own:∀ x∈xs,scope.names.lookup x=some .local\/scope.names.lookup x=some .cell
 fre:∀ x∈fr,scope.names.lookup x=some .free
 nd:(xs++fr).Nodup
theorem Wi {X:Cx}{scope:Scope}{xs fr:List Str}(h:Wp X.env.scope scope xs fr=true):CompS X scope xs fr:=by unfold Wp at h;simp only[Bool.and_eq_true,List.all_eq_true,bne_iff_ne,Bool.or_eq_true,beq_iff_eq,decide_eq_true_eq] at h;obtain⟨⟨⟨⟨⟨⟨⟨⟨h1,h2⟩,h3⟩,h4⟩,h5⟩,h6⟩,h7⟩,h8⟩,h9⟩:=h;exact⟨h1,h2,h3,λy hy e=>(h4 y hy).resolve_left (λq=>q e),λy hy e=>(h5 y hy).resolve_left (λq=>q e),h7,h8,h9⟩
def Pp (σ:St)(js:List Nat):St:=js.map λj=>(σ[j]?).getD none
abbrev cxC (X:Cx)(scope:Scope)(xs fr:List Str)(C:Addr)(ex:List Addr)(s₀:Shared)(H₀:Hp):Cx:=
 {X with N:=xs++fr,env:=compEnvC scope (cellsFrom (C+1) scope.names (Me X.env scope.names [])) C X.env,s₀:=s₀,H₀:=H₀,outer:=X.stack,ex:=ex,fn:=λx=>scope.names.lookup x==some .cell,pn:=[],xe:=λ_ _=>False}
section
variable {X:Cx}{scope:Scope}{xs fr:List Str}{pins:List (Addr×Obj)}{σ:St}{H:Hp}{s:Shared}{js:List Nat}{fp:List Addr}
theorem Tn {α:Type}{x:Str}{v:α}:∀ {l:List (Str×α)},(l.map (·.1)).Nodup->(x,v)∈l->l.lookup x=some v
 | [],_,h=>by cases h
 | (y,d) :: r,hn,h=>by
   obtain⟨h1,h2⟩:=A0P.mp hn;rw[A1N];rcases A0C.mp h with q|q
   . cases q;rw[A2M]
   have hne:(x==y)=false:=A0Y.mpr λe=>h1 (e ▸ A0E.mpr ⟨(x,v),q,rfl⟩);rw[hne];exact Tn h2 q
theorem CompS.cells (S:CompS X scope xs fr)(ok:X.Ok):∀ y∈scope.names,y.2=NameKind.free->∃ c,X.env.cells.lookup y.1=some c:=λy hy e=>ok.has _ (S.free y hy e)
theorem a96 (S:CompS X scope xs fr)(hjs:js.map (λj=>X.N[j]?)=fr.map some)(I:Inv X pins σ H s)(hfp:∀ b∈fp,Vm X pins H b)(hob:∀ b∈fp,∃ o,s.heap.get? b=some o){h':Heap}{t':Nat}
  (hn:h'.Ns s.heap.objs.size λ_=>none) (keep:∀ b o,s.heap.get? b=some o->h'.get? b=some o) (hcs:CellsOk h' (s.heap.objs.size+1) (cellsFrom (s.heap.objs.size+1) scope.names [])) :
  Inv (cxC X scope xs fr s.heap.objs.size fp s H) [] (List.replicate xs.length none++Pp σ js) H {s with heap:=h',toks:=t'}:=by
 have hcl:=S.cells I.ok;have sub:∀ x c,(Me X.env scope.names []).lookup x=some c->X.env.cells.lookup x=some c:=λx c h=>Vv hcl (λq=>by cases q) h;have hl:js.length=fr.length:=by have:=congrArg List.length hjs;rwa[A02,A02] at this
 have two:∀ x c,(cellsFrom (s.heap.objs.size+1) scope.names (Me X.env scope.names [])).lookup x=some c->(x,c)∈cellsFrom (s.heap.objs.size+1) scope.names []\/(Me X.env scope.names []).lookup x=some c:=λx c h=>by
  rw[Eg,A42] at h
  cases e:(cellsFrom (s.heap.objs.size+1) scope.names []).lookup x with
  |some d=>
    rw[e] at h
    cases h;exact .inl (Ee e)
  |none=>rw[e] at h;exact .inr h
 have oldc:∀ x c,X.env.cells.lookup x=some c->c<s.heap.objs.size:=λx c h=>let ⟨_,_,ho,_⟩:=I.cell x c h;A06 ho;have newc:∀ x c,(x,c)∈cellsFrom (s.heap.objs.size+1) scope.names []->s.heap.objs.size<c:=λx c h=>(hcs.empty x c h).2
 refine⟨⟨I.ok.mod,S.kind,I.ok.glob,I.ok.blt,A07 _,λx y c h1 h2=>?_,λx hx=>?_,λx c hf h=>?_,I.ok.hd,I.ok.frames,.inl rfl,λb hb=>?_,λb o e=>I.bs b o e,A0L I.ok.bsz I.sz,λb o e hb=>?_,λb hb hb2=>?_,I.stack,I.stkFree⟩,
  rfl,I.bare,Un.kept keep,⟨_,hn,λi x v e1 e2 e3=>?_⟩,λx c h=>?_,I.hok.fresh (Nat.le_refl _),λx c h=>?_,λp hp=>absurd (show p∈([]:List (Addr×Obj)) from hp) (by simp),I.hok.kept keep,?_⟩
 . rcases two x c h1 with g1|g1
   . rcases two y c h2 with g2|g2
     . exact name_of_addr hcs.apart g1 g2
     exact absurd (oldc y c (sub y c g2)) (Nat.not_lt.mpr (A25 (newc x c g1)))
   rcases two y c h2 with g2|g2
   . exact absurd (oldc x c (sub x c g1)) (Nat.not_lt.mpr (A25 (newc y c g2)))
   exact I.ok.inj x y c (sub x c g1) (sub y c g2)
 . -- the names that are cells there have one
   have hx:(relabel scope X.env).names.lookup x=some .cell\/(relabel scope X.env).names.lookup x=some .free:=hx
   have app:∀ c,(Me X.env scope.names []).lookup x=some c\/(x,c)∈cellsFrom (s.heap.objs.size+1) scope.names []->∃ c,(cellsFrom (s.heap.objs.size+1) scope.names (Me X.env scope.names [])).lookup x=some c:=λc h=>by
    rw[Eg,A42];rcases h with h|h
    . cases (cellsFrom (s.heap.objs.size+1) scope.names []).lookup x with
      |some d=>exact⟨d,rfl⟩
      |none=>exact⟨c,h⟩
    obtain⟨d,hd⟩:=Nq h;rw[hd];exact⟨d,rfl⟩
   have go:∀ k,(relabel scope X.env).names.lookup x=some k->(k = .cell\/k = .free)->∃ c,(cellsFrom (s.heap.objs.size+1) scope.names (Me X.env scope.names [])).lookup x=some c:=λk e hk=>by
    obtain⟨j,hj,q⟩:=He (env:=X.env) (names:=scope.names) e;have hm:=Ee hj
    have hjf:j = .free\/j = .cell:=by
     rcases q with q|q
     . rcases hk with hk|hk
       . exact .inr (q ▸ hk)
       exact .inl (q ▸ hk)
     exact .inl q.1
    rcases hjf with hjf|hjf
    . subst hjf;obtain⟨c,hc⟩:=Qu (env:=X.env) (x:=x) (names:=scope.names) (acc:=[]) (.inr hm);exact app c (.inl hc)
    subst hjf;obtain⟨c,hc⟩:=Kt (n:=s.heap.objs.size+1) hm;exact app c (.inr hc)
   rcases hx with hx|hx
   . exact go _ hx (.inl rfl)
   exact go _ hx (.inr rfl)
 . rcases two x c h with g|g
   . exact A25 (newc x c g)
   have hf':scope.names.lookup x=some .cell:=by simpa using hf
   obtain⟨d,hd⟩:=Kt (n:=s.heap.objs.size+1) (Ee hf');have h':=h;obtain⟨e,he⟩:=Nq hd;have h':(cellsFrom (s.heap.objs.size+1) scope.names (Me X.env scope.names [])).lookup x=some c:=h;rw[Eg,A42,he] at h'
   cases h';exact A25 (newc x _ (Ee he))
 . obtain⟨f0,f1,f2,f3,f4,f5⟩:=hfp b hb;obtain⟨o,ho⟩:=hob b hb;refine⟨A0K (A06 ho),λx c h z=>?_⟩;rcases two x c h with g|g
   . have h1:=newc x c g;have h2:=A06 ho;rw[<- z] at h2;exact absurd h1 (Nat.not_lt.mpr (A25 h2))
   exact f4 x c (sub x c g) z
 . obtain⟨f0,f1,f2,f3,f4,f5⟩:=hfp b hb;rcases f3 with f3|f3
   . exact I.ok.noex b o e f3
   exact absurd (A10 (A06 (I.ok.bs b o e).1) f3) (A1P _)
 . obtain⟨f0,f1,f2,f3,f4,f5⟩:=hfp b hb;rcases A0C.mp (I.stkSub b hb2) with z|z
   . exact f1 z
   exact f2 z
 . have e1:(xs++fr)[i]? = some x:=e1
   by_cases hi:i<xs.length
   . rw[A1V (by rw[A26];exact hi),A4B,A0R hi] at e2
     cases e2
   have hi':xs.length<=i:=Nat.le_of_not_lt hi;rw[A41 hi'] at e1;rw[A41 (by rw[A26];exact hi'),A26] at e2;unfold Pp at e2;rw[A08] at e2
   cases ej:js[i-xs.length]? with
   |none=>rw[ej] at e2;cases e2
   |some j=>
     rw[ej] at e2;have e2':(σ[j]?).getD none=some v:=A0O e2
     have e4:σ[j]? = some (some v):=by
      cases q:σ[j]? with
      |none=>rw[q] at e2';cases e2'
      |some o=>rw[q] at e2';rw[show o=some v from e2']
     have e5:X.N[j]? = some x:=by have:=congrArg (λl=>l[i-xs.length]?) hjs;rw[A08,A08,ej,e1] at this;exact A0O this
     have hf:=S.fre x (A04 e1);have hk:=S.free _ (Ee hf) rfl;obtain⟨m,hm,hl'⟩:=I.loc;obtain⟨u,r,lk⟩:=hl' j x v e5 e4 (.inr hk);refine⟨u,r,.inr ⟨?_,?_⟩⟩
     . have q:=Ju (scope:=scope) (env:=X.env) S.okind hf;show(relabel scope X.env).names.lookup x=some .cell\/(relabel scope X.env).names.lookup x=some .free;have q':(relabel scope X.env).names.lookup x=some (if(NameKind.free==NameKind.free&&X.env.kindOf x==some .cell) then .cell else .free):=q
       by_cases hc:(NameKind.free==NameKind.free&&X.env.kindOf x==some .cell)=true
       . rw[A0R hc] at q';exact .inl q'
       rw[A0J hc] at q';exact .inr q'
     obtain⟨c',hc'⟩:=Qu (env:=X.env) (x:=x) (names:=scope.names) (acc:=[]) (.inr (Ee hf));rcases lk with ⟨z,_⟩|⟨_,c,hc,ob,ho,hd⟩
     . rcases hk with hk|hk
       . rw[z] at hk;cases hk
       rw[z] at hk;cases hk
     have e6:c=c':=by have:=sub x c' hc';rw[hc] at this;exact A0O this
     subst e6;refine⟨_,?_,ob,keep _ _ ho,hd⟩;show(cellsFrom (s.heap.objs.size+1) scope.names (Me X.env scope.names [])).lookup x=some c;rw [Eg,A42]
     have none':(cellsFrom (s.heap.objs.size+1) scope.names []).lookup x=none:=by
      cases e:(cellsFrom (s.heap.objs.size+1) scope.names []).lookup x with
      |none=>rfl
      |some d=>
        have:=Tn S.uniq (Lf (Ee e));rw[hf] at this
        cases this
     rw[none'];exact hc'
 . rcases two x c h with g|g
   . exact⟨_,(hcs.empty x c g).1⟩
   obtain⟨v,ob,ho,hd⟩:=I.cell x c (sub x c g);exact⟨v,ob,keep _ _ ho,hd⟩
 . rcases two x c h with g|g
   . exact I.hok.fresh (A25 (newc x c g))
   exact I.freeC x c (sub x c g)
 show _=(xs++fr).length;unfold Pp;rw[A0T,A0T,A26,A02,hl]
theorem Y7 {M:Model}{A:Around}{E:Value->Shared->Prop}{s:Shared}{scope:Scope}{globals:Addr}{cl:List (Str×Addr)}{qual:Str}{env:Env}{Q:Env->Shared->Prop}
  (hQ:∀ h',h'.Ns s.heap.objs.size (λ_=>none)->(∀ b o,s.heap.get? b=some o->h'.get? b=some o)->CellsOk h' (s.heap.objs.size+1) (cellsFrom (s.heap.objs.size+1) scope.names []) ->
   Q (newEnv scope s.heap.objs.size globals (cellsFrom (s.heap.objs.size+1) scope.names cl) qual none .none (some env) builtinsNs) {s with heap:=h'}) :
  wpAny M A (newFunctionEnv scope globals cl [] qual none .none (some env)) Q E s:=by
 simp only[newFunctionEnv,Option.isSome_some,if_true];refine A03 (wpAny_alloc ?_);refine wpAny_bind (wpAny_layCells _ (λname kind cells=>by cases hkc:kind==NameKind.cell<;>simp[hkc]) _ _ _ _ ?_)
 have okc:=cellsFrom_ok scope.names (s.heap.push {cls:=.type "dict",data:=.dict #[]}) (s.heap.objs.size+1) [] ⟨λ_ _ hm=>(nomatch hm),List.Pairwise.nil⟩ (by rw[A1U];exact A07 _);rw[A1U] at okc;rw[show({s with heap:=s.heap.push {cls:=.type "dict",data:=.dict #[]}}:Shared).heap.objs.size=s.heap.objs.size+1 from A1U ..]
 rw[List.forIn_nil];exact A03 (A09 (A09 (hQ _ ((Heap.Ns.new s.heap (.type "dict")).keeps (pushCells_keeps _ _)) (λb o e=>pushCells_keeps _ _ b o (A01 _ e)) okc)))
theorem Yk {σ':St}{H':Hp}{s':Shared}{h'':Heap}(I:Inv X pins σ H s)(hfp:∀ b∈fp,Vm X pins H b)(J:Inv (cxC X scope xs fr s.heap.objs.size fp s H) [] σ' H' s')(hs:Heap.SameBut s.heap.objs.size s'.heap h'') :
  Inv X pins σ H' {s' with heap:=h''}:=by
 have old:∀ b o,s.heap.get? b=some o->b≠s.heap.objs.size:=λb o e=>A0K (A06 e);have ub:Un (frs X.stack) fp H H' s.heap s'.heap:=J.base;refine I.call' (s':={s' with heap:=h''}) (ch:=fp) J.os ⟨λb o e n hb hx=>(hs.2 b (old b o e)).trans (ub.keep b o e n hb hx),λb o e n hb hx=>?_,ub.free,λb o e hx=>?_,ub.tups,ub.frzs,ub.tbls⟩ (λb o e=>?_) J.bare λb hb=>?_
 . obtain⟨sl,e1⟩:=ub.slot b o e n hb hx;exact⟨sl,(hs.2 b (old b o e)).trans e1⟩
 . obtain⟨o',e1⟩:=ub.there b o e hx;exact⟨o',(hs.2 b (old b o e)).trans e1⟩
 . have hf:H' s.heap.objs.size=none:=J.free;refine(J.hok b o e).stay (λc v hc q=>(hs.2 c ?_).trans q) (λ_ q=>q) λ_ _ q=>q;intro z;rcases hc with hc|hc
   . rw[<- hc,z,hf] at e;cases e
   rw[z,hf] at hc;cases hc
 obtain⟨f0,f1,f2,f3,f4,f5⟩:=hfp b hb;exact⟨f3,f1,f4,f5⟩
def PIf (X:Cx)(ifs:List Expr)(t:TT):Prop:=
 ∀(pins:List (Addr×Obj)) (s:Shared) (σ:St) (H:Hp) (Q:Bool->Hp->Prop) (E:Value->Shared->Prop),(∀ e s',X.xe e s'->E e s')->Inv X pins σ H s->t σ H Q ->
  wpAny (model X.prog X.w) X.A (forIn ifs true λc r=>if r=true then do let ok <- isTrue c X.env (eval c X.env);pure (ForInStep.yield ok) else pure (ForInStep.yield r)) (TP X pins σ Q) E s
def ag2:TT:=λ_ H Q=>Q true H
theorem Dx:PIf X [] ag2:=λ_ _ _ H _ _ _ I h=>wpAny_tests_nil ⟨H,I,h⟩
theorem Qh {c:Expr}{t:TT}(hc:PT X c t):PIf X [c] t:=λpins s σ H Q _ hE I h=>wpAny_tests_one (A1X (hc pins s σ H Q I h) (λ_ _ z=>z) hE)
def ap5 (k:Nat)(js:List Nat)(wi:TI)(g:TG)(tt:TT)(te:TE):TE:=fun σ H Q=>wi σ H λJ H1=>∀ p,H1 p=none ->
 ∃ W:Nat->Nat->Hp->Prop,(∃ m,W 0 m (upd H1 p (.lst [])))/\∀ i m H,W i m H ->
  (J.stop i H/\Q (.ref p) H)\/(J.go i H/\∃ N:Hp->Prop,(∀ H',N H'->∃ m',m'<m/\W (i+1) m' H') /\
   ∀ x H',J.yld i H x H'->g x (List.replicate k none++Pp σ js) H' fun σ2 H2=>tt σ2 H2 λb H3=>if b=true then te σ2 H3 λy H4=>∃ acc,H4 p=some (.lst acc)/\acc.length<sizeLine/\N (upd H4 p (.lst (acc++[y]))) else N H3)
theorem Yf {tg elt iter:Expr}{ifs:List Expr}{pos:Pos}{it acc:Value}{env:Env}{A:Around}{R:Result->Shared->Prop}{s:Shared}{P:Program}{w:World}(I:Nat->Shared->Prop)
  (turn:∀ n s,I n s->wpAny (model P w) A (pyNext it) (λr s₁=>match r with
   |none=>R (.ok .next) s₁
   |some v=>wpAny (model P w) A (letOwnedTupleGo tg it v) (λ_ s₁'=>wpAny (model P w) A (assign tg env v) (λ_ s₂=>
     wpAny (model P w) A (forIn ifs true λc r=>if r=true then do let ok <- isTrue c env (eval c env);pure (ForInStep.yield ok) else pure (ForInStep.yield r)) (λok s₃=>
      if ok=true then wpAny (model P w) A (eval elt env) (λx s₄=>wpAny (model P w) A (call (.builtin "list.append") [acc,x]) (λ_ s₅=>∃ m,m<n/\I m s₅) (λ_ _=>False) s₄) (λ_ _=>False) s₃
      else ∃ m,m<n/\I m s₃) (λ_ _=>False) s₂) (λ_ _=>False) s₁') (λ_ _=>False) s₁) (λ_ _=>False) s)
  (n:Nat) (h:I n s):codeAny (model P w) A (.compLoop (.ListComp elt [⟨tg,iter,ifs,0⟩] scope pos) 0 it acc env) R s:=by
 refine codeAny_loop rfl I (λn s hI=>?_) n h;show wpAny _ A ((compTurn (.ListComp elt [⟨tg,iter,ifs,0⟩] scope pos) 0 it acc env).onRaise (λx=>do noteFrame x env;theTreesLotGoes x)) _ _ s
 refine wpAny_noted ?_;rw [compTurn_list];refine A03 (A5C (A03 (A1X (turn n s hI) (λr s₁ h₁=>?_) λ_ _ h'=>h'.elim)))
 cases r with
 |none=>exact A09 h₁
 |some v=>
   refine A03 (A1X h₁ (λ_ s₁' h₁'=>?_) λ_ _ h'=>h'.elim);refine A03 (A1X h₁' (λ_ s₂ h₂=>A03 (A1X h₂ (λok s₃ h₃=>?_) λ_ _ h'=>h'.elim)) λ_ _ h'=>h'.elim)
   cases ok with
   |false=>exact A09 ⟨rfl,h₃⟩
   |true=>exact A03 (A03 (A1X h₃ (λx s₄ h₄=>A03 (A1X h₄ (λ_ s₅ h₅=>A09 (A09 ⟨rfl,h₅⟩)) λ_ _ h'=>h'.elim)) λ_ _ h'=>h'.elim))
def aa9 (n:Nat)(g:TG):Prop:=∀ x σ H Q,g x σ H Q->g x σ H fun σ' H'=>(∀ k,n<=k->σ'[k]? = σ[k]?)/\Q σ' H'
theorem Cd {n i:Nat}(h:i<n):aa9 n (M9 i):=λx σ H Q q=>⟨λk hk=>A2W nofun,q⟩
theorem Wk {tg elt iter:Expr}{ifs:List Expr}{pos:Pos}{g:TG}{tt:TT}{te:TE}(hc:X.calm=true)(S:CompS X scope xs fr)(hjs:js.map (λj=>X.N[j]?)=fr.map some)
  (hg:∀ C ex s₀ H₀,PG (cxC X scope xs fr C ex s₀ H₀) tg g) (hk:aa9 xs.length g) (hi:∀ C ex s₀ H₀,PIf (cxC X scope xs fr C ex s₀ H₀) ifs tt) (he:∀ C ex s₀ H₀,PE (cxC X scope xs fr C ex s₀ H₀) elt te)
  {s2:Shared} {H1:Hp} {R:Value->Addr->Result->Shared->Prop} {Q:VK} {it:Addr} {tn:Nat->Heap->Prop} {J:It} (I:Inv X pins σ H1 s2) (T:a85 X.prog X.w X.K tg J fp it tn) (st:tn 0 s2.heap) (hfp:∀ b∈fp,Vm X pins H1 b)
  (hq:∀ p,H1 p=none->∃ W:Nat->Nat->Hp->Prop,(∃ m,W 0 m (upd H1 p (.lst [])))/\∀ i m H,W i m H ->
   (J.stop i H/\Q (.ref p) H)\/(J.go i H/\∃ N:Hp->Prop,(∀ H',N H'->∃ m',m'<m/\W (i+1) m' H') /\
    ∀ x H',J.yld i H x H'->g x (List.replicate xs.length none++Pp σ js) H' fun σ2 H2=>tt σ2 H2 λb H3=>if b=true then te σ2 H3 λy H4=>∃ acc,H4 p=some (.lst acc)/\acc.length<sizeLine/\N (upd H4 p (.lst (acc++[y]))) else N H3))
  (hR:∀(p C:Addr) (s':Shared) (H':Hp),(∃ m,s'.heap.Ns C m)->Vm X pins H' C->Inv X pins σ H' s'->Q (.ref p) H'->R (.ref p) C (.ok .next) s') :
  wpAny (model X.prog X.w) X.A (newList []) (λacc s₃=>wpAny (model X.prog X.w) X.A (newFunctionEnv scope X.env.globals (Me X.env scope.names []) [] X.env.qual none .none (some X.env)) (λcenv s₄=>
   codeAny (model X.prog X.w) X.A (.compStart (.ListComp elt [⟨tg,iter,ifs,0⟩] scope pos) 0 (.ref it) acc {cenv with scope:=relabel scope X.env}) (R acc cenv.locals) s₄) X.xe s₃) X.xe s2:=by
 refine A2C ?_ (by show 0<=sizeLine;exact A3G _);have hn0:H1 s2.heap.objs.size=none:=I.hok.fresh (A07 _);have I3:Inv X pins σ (upd H1 s2.heap.objs.size (.lst [])) {s2 with heap:=s2.heap.push {cls:=.type "list",data:=.seq ([]:List Value).toArray}}:=I.laid (t':=s2.toks) (λb u e=>A01 _ e) (A07 _) ⟨A3G _,[],0,.nil,A0D _ rfl⟩
 obtain⟨W,⟨m0,w0⟩,turn⟩:=hq _ hn0;have hob:∀ b∈fp,∃ o,s2.heap.get? b=some o:=λb hb=>let ⟨o,e,_⟩:=T.obj _ _ st b hb;⟨o,e⟩
 have hfp3:∀ b∈fp,Vm X pins (upd H1 s2.heap.objs.size (.lst [])) b:=λb hb=>by obtain⟨f0,f⟩:=hfp b hb;obtain⟨o,e⟩:=hob b hb;exact⟨by rw[Ah (A0K (A06 e))];exact f0,f⟩
 have hob3:∀ b∈fp,∃ o,(s2.heap.push {cls:=.type "list",data:=.seq ([]:List Value).toArray}).get? b=some o:=λb hb=>let ⟨o,e⟩:=hob b hb;⟨o,A01 _ e⟩;have st3:tn 0 (s2.heap.push {cls:=.type "list",data:=.seq ([]:List Value).toArray}):=T.keep _ _ _ st λb _ o e=>A01 _ e;generalize hs3:({s2 with heap:=s2.heap.push {cls:=.type "list",data:=.seq ([]:List Value).toArray}}:Shared)=s3 at I3 ⊢;have st3':tn 0 s3.heap:=by rw[<- hs3];exact st3
 have hob3':∀ b∈fp,∃ o,s3.heap.get? b=some o:=by rw[<- hs3];exact hob3
 generalize hH3:upd H1 s2.heap.objs.size (.lst [])=H3 at I3 hfp3 w0;generalize hp0:s2.heap.objs.size=p0 at turn ⊢;refine Y7 λh₁ hns₁ hkp₁ hco₁=>?_;have I4:=a96 (t':=s3.toks) S hjs I3 hfp3 hob3' hns₁ hkp₁ hco₁;have st4:tn 0 h₁:=T.keep _ _ _ st3' λb hb o e=>hkp₁ b o e
 have loop:∀ s₄:Shared,Inv (cxC X scope xs fr s3.heap.objs.size fp s3 H3) [] (List.replicate xs.length none++Pp σ js) H3 s₄->tn 0 s₄.heap ->
   codeAny (model X.prog X.w) X.A (.compLoop (.ListComp elt [⟨tg,iter,ifs,0⟩] scope pos) 0 (.ref it) (.ref p0) (compEnvC scope (cellsFrom (s3.heap.objs.size+1) scope.names (Me X.env scope.names [])) s3.heap.objs.size X.env)) (R (.ref p0) s3.heap.objs.size) s₄:=by
  intro s₄ I4 st4
  have stat:∀ {H':Hp},(∀ b∈fp,H' b=none)->∀ b∈fp,Vm (cxC X scope xs fr s3.heap.objs.size fp s3 H3) [] H' b:=fun {H'} hn b hb=>by obtain⟨f0,f1,f2,f3,f4,f5⟩:=hfp3 b hb;obtain⟨o,e⟩:=hob3' b hb;refine⟨hn b hb,Nat.ne_of_lt (Heap.lt_size e),I4.ok.exfs b hb,.inl hb,λx c h=>(I4.ok.exf b hb).2 x c h,λp hp=>absurd (show p∈([]:List (Addr×Obj)) from hp) (by simp)⟩
  refine Yf (λn s'=>∃ i H',Inv (cxC X scope xs fr s3.heap.objs.size fp s3 H3) [] (List.replicate xs.length none++Pp σ js) H' s'/\tn i s'.heap/\(∀ b∈fp,H' b=none)/\W i n H') ?_ m0 ⟨0,H3,I4,st4,λb hb=>(hfp3 b hb).1,w0⟩;rintro n s5 ⟨i,H5,I5,st5,fr5,w5⟩;rcases turn i n H5 w5 with ⟨stop,qn⟩|⟨go,N,hN,step⟩
  . refine thn (T.done (cxC X scope xs fr s3.heap.objs.size fp s3 H3) rfl rfl rfl hc i [] s5 _ H5 (λ_ _=>False) I5 (stat fr5) st5 stop) λr s6 ⟨hr,I6⟩=>?_;subst hr;obtain⟨m6,n6,_⟩:=id I6.loc;exact hR p0 s3.heap.objs.size s6 H5 ⟨m6,n6⟩ (I3.fpOk (A07 _) I6.free) (Yk I3 hfp3 I6 (Heap.SameBut.refl ..)) qn
  refine thn (T.item (cxC X scope xs fr s3.heap.objs.size fp s3 H3) rfl rfl rfl hc i [] s5 _ H5 (λ_ _=>False) I5 (stat fr5) st5 go) λr s6 ⟨u,hr,h6⟩=>?_;subst hr;refine thn h6 λ_ s7 ⟨x,H7,I7,r7,y7,st7,fr7⟩=>?_;have I7':=I7.pinned (stat fr7) (T.obj _ _ st7);refine thn (hg _ _ _ _ _ s7 _ H7 x u _ I7' r7 (hk _ _ _ _ (step x H7 y7))) λ_ s8 ⟨σ8,H8,I8,kp8,q8⟩=>?_
  have again:∀ {s9:Shared} {H9:Hp},Inv (cxC X scope xs fr s3.heap.objs.size fp s3 H3) ([]++Th fp s7.heap) σ8 H9 s9->N H9 ->
    ∃ m,m<n/\∃ i H',Inv (cxC X scope xs fr s3.heap.objs.size fp s3 H3) [] (List.replicate xs.length none++Pp σ js) H' s9/\tn i s9.heap/\(∀ b∈fp,H' b=none)/\W i m H':=fun {s9 H9} I9 n9=>by
   obtain⟨m',hm,w9⟩:=hN H9 n9;refine⟨m',hm,i+1,H9,I9.unpinned.weak ?_ ?_,T.keep _ _ _ st7 λb hb o e=>(I9.pin (b,o) (A18 _ (A18 _ (Jg hb e)))).1,λb hb=>?_,w9⟩
   . rw[I9.len,I5.len]
   . intro k v hkv
     by_cases hx:k<xs.length
     . rw[A1V (by rw[A26];exact hx),A4B,A0R hx] at hkv
       cases hkv
     rw[kp8 k (Nat.le_of_not_lt hx)];exact hkv
   obtain ⟨o,e,d⟩:=T.obj _ _ st7 b hb;exact(I9.pin (b,o) (A18 _ (A18 _ (Jg hb e)))).2.1
  refine A1X (hi _ _ _ _ _ s8 σ8 H8 _ (λ_ _=>False) (λ_ _ z=>z) I8 q8) (λok s9 ⟨H9,I9,q9⟩=>?_) λ_ _ z=>z
  cases ok with
  |false=>rw[A0J A0F];rw[A0J A0F] at q9;exact again I9 q9
  |true=>rw[A0R rfl];rw[A0R rfl] at q9;refine thn (he _ _ _ _ _ s9 σ8 H9 _ I9 q9) λuy s10 ⟨y,H10,I10,r10,acc,hacc,hz,n10⟩=>?_;refine thn (Bg _ s10 σ8 H10 (.ref p0) [y] (.ref p0) [uy] (λ_ H11=>N H11) I10 rfl (.cons r10 .nil) ⟨p0,acc,y,rfl,rfl,hacc,hz,n10⟩) λ_ s11 ⟨_,H11,I11,_,n11⟩=>?_;exact again I11 n11
 exact codeAny_compStart_list (loop _ I4 st4) (T.self _ _ _ _ _ st4 (loop _ I4 st4))
theorem Inv.letgo {C:Addr}{h'':Heap}(I:Inv X pins σ H s)(f:Vm X pins H C)(hs:Heap.SameBut C s.heap h''):Inv X pins σ H {s with heap:=h''}:=by obtain⟨f0,f1,f2,f3,f4,f5⟩:=f;exact I.turned (t':=s.toks) (λb o hb e=>(hs.2 b hb).trans e) f0 f1 f3 f4 f5
theorem Dm {tg elt iter:Expr}{ifs:List Expr}{pos:Pos}{wi:TI}{g:TG}{tt:TT}{te:TE}(xs fr:List Str)(js:List Nat)(hc:X.calm=true)(hS:Wp X.env.scope scope xs fr=true)(hjs:js.map (λj=>X.N[j]?)=fr.map some)(hw:PI X tg iter wi)
  (hg:∀ C ex s₀ H₀,PG (cxC X scope xs fr C ex s₀ H₀) tg g) (hk:aa9 xs.length g) (hi:∀ C ex s₀ H₀,PIf (cxC X scope xs fr C ex s₀ H₀) ifs tt) (he:∀ C ex s₀ H₀,PE (cxC X scope xs fr C ex s₀ H₀) elt te)
  (hs:∀ x,foldedSetIterable iter X.env x=pure x:=by intro _;ac_nf) :
  PE X (.ListComp elt [⟨tg,iter,ifs,0⟩] scope pos) (ap5 xs.length js wi g tt te):=by
 intro pins s σ H Q I h;have S:=Wi hS;rw[eval_ListComp];refine wpAny_comprehension_free (use:=none) rfl hs (Pg (S.cells I.ok)) S.kind S.names ?_;refine thn (hw pins s σ H _ I h) λv s1 h1=>thn h1 λitv s2 h2=>?_;obtain⟨it,fp,tn,J,H2,e,I2,T,st2,f2,q2⟩:=h2;subst e;refine Wk (Q:=Q) (R:=λacc C=>compPost (model X.prog X.w) X.A X.xe none (EP X pins σ Q) acc C) hc S hjs hg hk hi he I2 T st2 f2 q2 ?_;intro p C s' H' ⟨m,hn⟩ fC hI q;exact⟨m,hn,λh'' hs''=>⟨.ref p,H',hI.letgo fC hs'',rfl,q⟩⟩
theorem Ls {tg elt iter:Expr}{ifs:List Expr}{pos spos py:Pos}{wi:TI}{g:TG}{tt:TT}{te:TE}{i:Nat}{y:Str}(xs fr:List Str)(js:List Nat)(hc:X.calm=true)(hS:Wp X.env.scope scope xs fr=true)(hjs:js.map (λj=>X.N[j]?)=fr.map some)
  (hN:X.N.Nodup) (hi':X.N[i]? = some y) (hy:X.env.scope.names.lookup y=some .local) (hw:PI X tg iter wi)
  (hg:∀ C ex s₀ H₀,PG (cxC X scope xs fr C ex s₀ H₀) tg g) (hk:aa9 xs.length g) (hi:∀ C ex s₀ H₀,PIf (cxC X scope xs fr C ex s₀ H₀) ifs tt) (he:∀ C ex s₀ H₀,PE (cxC X scope xs fr C ex s₀ H₀) elt te)
  (hsw:swapsWith (.ListComp elt [⟨tg,iter,ifs,0⟩] scope pos) (some (.Name y py)) spos.line X.env=pure true:=by ac_nf)
  (hs:∀ x,foldedSetIterable iter X.env x=pure x:=by intro _;ac_nf) :
  PS X (.Assign [.Name y py] (.ListComp elt [⟨tg,iter,ifs,0⟩] scope pos) spos) (aI0 (ap5 xs.length js wi g tt te) (M9 i)):=by
 intro pins s σ H D I h;have S:=Wi hS;rw[exec_Assign_Name_used _ _ _ _ hsw];refine A03 (A5C (A03 ?_));show wpAny _ X.A (do let _ <- comprehension (.ListComp elt [⟨tg,iter,ifs,0⟩] scope pos) scope X.env _ (newList []) false (eval iter X.env) (some (assign (.Name y py) X.env))) _ _ s
 refine A03 (A1X (wpAny_comprehension_free (use:=some (assign (.Name y py) X.env)) (Q:=λ_ s'=>SP X pins D .next s') rfl hs (Pg (S.cells I.ok)) S.kind S.names ?_) (λ_ s' hq=>A09 (A09 hq)) λ_ _ e=>e);refine thn (hw pins s σ H _ I h) λv s1 h1=>thn h1 λitv s2 h2=>?_;obtain⟨it,fp,tn,J,H2,e,I2,T,st2,f2,q2⟩:=h2;subst e;refine Wk (Q:=λx H1=>M9 i x σ H1 D.nx) (R:=λacc C=>compPost (model X.prog X.w) X.A X.xe (some (assign (.Name y py) X.env)) (λ_ s'=>SP X pins D .next s') acc C) hc S hjs hg hk hi he I2 T st2 f2 q2 ?_;intro p C s' H' ⟨m,hn⟩ fC I' q;show wpAny _ X.A (assign (.Name y py) X.env (.ref p)) _ _ s';refine wpAny_assign_Name (Sf I' hN hi' (.inl hy) (show RelV (.ref p) (.ref p) from rfl) (λs'' I'' ⟨a,hs1,ha⟩=>?_) (.inr hy))
 have hne:C≠a:=by
  rcases ha with ha|ha
  . rw[ha];exact fC.2.1
  exact(fC.2.2.2.2.1 y a ha).symm
 exact⟨m,hn.sameBut hs1 hne,λh'' hs''=>⟨_,H',I''.letgo fC hs'',q⟩⟩
end
def Its (x:Str):It:=⟨λi _=>i<x.cps.size,λi H v H'=>H'=H/\∃ c,x.cps[i]? = some c/\v = .str ⟨#[c]⟩,λi _=>x.cps.size<=i⟩
section
variable {X:Cx}{tg:Expr}
theorem a63 {P:Program}{w:World}{K:PySem.W.Frag}{tg:Expr}{it:Addr}{n:Nat}{PV:Nat->Value->Prop}{val:Nat->V->Prop}{St:Nat->Heap->Prop}(W:∀ A:Around,A.handled=none->Walks P w A it [it] [it] n PV St)
  (hself:∀(A:Around) (i:Nat) (s:Shared) (Q:Value->Shared->Prop) (E:Value->Shared->Prop),St i s.heap->Q (.ref it) s->wpAny (model P w) A (pyIter (.ref it)) Q E s)
  (hv:∀ i u,PV i u->∃ v,RelV v u/\val i v) (hto:∀ i h,St i h->∃ o T vs,h.get? it=some o/\o.cls = .type T/\o.data = .fields vs/\["enumerate","zip","dict_itemiterator","dict_reverseitemiterator","odict_iterator","itertools.zip_longest","itertools.pairwise"].contains T=false) :
  a85 P w K tg ⟨λi _=>i<n,λi H v H'=>H'=H/\val i v,λi _=>n<=i⟩ [it] it (λi h=>St i h/\i<=n) where
 mem:=by simp
 obj:=λi h st b hb=>by
  have e:b=it:=by simpa using hb
  subst e;obtain⟨o,T,vs,e1,e2,e3,e4⟩:=hto i h st.1;exact⟨o,e1,λv z=>by rw[e3] at z;cases z⟩
 keep:=λi h h' st k=>⟨(W {handled:=none} rfl).frame i h h' st.1 k,st.2⟩
 item:=by
  intro X hP hw hK hc i pins s σ H E I hf st hg;subst hP hw hK;obtain⟨f0,f1,f2,f3,f4,f5⟩:=hf it (by simp);refine(W X.A (I.ok.hd hc)).item i s _ _ hg st.1 λu h' tk hp st' kk=>?_;obtain⟨v,rv,vv⟩:=hv i u hp;have I1:Inv X pins σ H {s with heap:=h',toks:=tk}:=I.turned (λb o hb e=>kk b o (by simpa using hb) e) f0 f1 f3 f4 f5
  obtain⟨o,T,vs,e1,e2,e3,e4⟩:=hto _ _ st';exact⟨u,rfl,Xa (s:={s with heap:=h',toks:=tk}) e1 e2 e3 e4 ⟨v,H,I1,rv,⟨rfl,vv⟩,⟨st',hg⟩,λb hb=>(hf b hb).1⟩⟩
 done:=by intro X hP hw hK hc i pins s σ H E I hf st hg;subst hP hw hK;obtain⟨f0,f1,f2,f3,f4,f5⟩:=hf it (by simp);have e:i=n:=A4S st.2 hg;subst e;exact(W X.A (I.ok.hd hc)).done s _ _ st.1 λh' tk kk=>⟨rfl,I.turned (λb o hb e=>kk b o (by simpa using hb) e) f0 f1 f3 f4 f5⟩
 self:=λA i s Q E st h=>hself A i s Q E st.1 h
theorem aA5 {pins:List (Addr×Obj)}{σ:St}{H1:Hp}{s1:Shared}{R:It->Hp->Prop}{E:Value->Shared->Prop}{z:Str}{v:Value}(I1:Inv X pins σ H1 s1)(r1:RelV (.str z) v)(q:R (Its z) H1):wpAny (model X.prog X.w) X.A (pyIter v) (PIE X pins σ tg R) E s1:=by
 obtain⟨t,rfl⟩:=r1;have sv:∀ i u,SignAt z i u->∃ v,RelV v u/\∃ c,z.cps[i]? = some c/\v = .str ⟨#[c]⟩:=λi u ⟨c,tu,hc,hu⟩=>⟨.str ⟨#[c]⟩,⟨tu,hu⟩,c,hc,rfl⟩
 have fin:∀(o:Obj) (St:Nat->Heap->Prop) (n:Nat),St 0 (s1.heap.push o)->a85 X.prog X.w X.K tg (Its z) [s1.heap.objs.size] s1.heap.objs.size (λi h=>St i h/\i<=z.cps.size)->PIE X pins σ tg R (.ref s1.heap.objs.size) {s1 with heap:=s1.heap.push o}:=λo St n h0 T=>by
  refine⟨s1.heap.objs.size,[s1.heap.objs.size],_,_,H1,rfl,I1.kept (t':=s1.toks) λb ob e=>A01 _ e,T,⟨h0,A3G _⟩,λb hb=>?_,q⟩;have e:b=s1.heap.objs.size:=by simpa using hb
  subst e;exact I1.fpOk (A07 _) (I1.hok.fresh (A07 _))
 cases ha:z.cps.all (· < 128)
 . exact wpAny_pyIter_wide ha (fin _ _ 0 ⟨_,A0D _ rfl,rfl,rfl⟩ (a63 (λA hA=>Walks.strWide hA _ z t) (λ_ _ _ _ _ st hq=>wpAny_pyIter_striter_wide st hq) sv λi h ⟨o,ho,hc,hd⟩=>⟨o,_,_,ho,hc,hd,by decide⟩))
 exact wpAny_pyIter_ascii ha (fin _ _ 0 ⟨_,A0D _ rfl,rfl,rfl⟩ (a63 (λA hA=>Walks.strAscii hA _ z t) (λ_ _ _ _ _ st hq=>wpAny_pyIter_striter_ascii st hq) sv λi h ⟨o,ho,hc,hd⟩=>⟨o,_,_,ho,hc,hd,by decide⟩))
end
section
variable {X:Cx}
def aQ2:V->Option Int->Option Int->Hp->VK->Prop:=λx lo hi H Q=>∃ z,x = .str z/\z.length<=sizeLine/\Q (.str (Txt.slice z lo hi)) H
theorem sl_str:SlR X aQ2:=by
 intro pins s σ H x v vl vu lo hi sl Q I rx hs pl pu h;obtain⟨z,rfl,hz,q⟩:=h;obtain⟨t,rfl⟩:=rx;have fin:∀ t' k,EP X pins σ Q (.str (Txt.slice z lo hi) t') {s with toks:=k}:=λt' k=>⟨.str _,H,I.tok _,⟨_,rfl⟩,q⟩
 have sz:=A0L (Txt.slice_le z lo hi) hz;refine⟨"str",_,F.slot_str_getitem.lookup,typeIs_str _ _ _,?_⟩
 cases pl with
 |none=>
   cases pu with
   |none=>exact A38 (l:=none) (u:=none) (st:=none) hs rfl (A4T ⟨sz,fin⟩)
   |int j uj=>exact A38 (l:=none) (u:=some (j,uj)) (st:=none) hs rfl (A4T ⟨sz,fin⟩)
 |int i ui=>
   cases pu with
   |none=>exact A38 (l:=some (i,ui)) (u:=none) (st:=none) hs rfl (A4T ⟨sz,fin⟩)
   |int j uj=>exact A38 (l:=some (i,ui)) (u:=some (j,uj)) (st:=none) hs rfl (A4T ⟨sz,fin⟩)
theorem Ws:CallR X (.builtin "repr") (λxs H Q=>(∃ b,xs=[.bl b]/\Q (.str (if b then "True" else "False")) H)\/(xs=[.non]/\Q (.str "None") H)):=by
 intro pins s σ H xs us Q I r h;rcases h with ⟨b,rfl,q⟩|⟨rfl,q⟩
 . obtain⟨u,rfl,ru⟩:=K6 r
   cases ru;exact PySem.P.repr_of_bool ⟨.str _,H,I.tok _,⟨_,rfl⟩,q⟩
 obtain⟨u,rfl,ru⟩:=K6 r
 cases ru;exact PySem.P.repr_of_none ⟨.str _,H,I.tok _,⟨_,rfl⟩,q⟩
theorem call_isinst:CallR X (.builtin "isinstance") (λxs H Q=>∃ x c t b,xs=[x,.ty c]/\TyOf X.K H x t/\W.kitOne X.K t (.type c)=some b/\Q (.bl b) H):=by
 intro pins s σ H xs us Q I r h;obtain⟨x,c,t,b,rfl,ty,e,q⟩:=h;obtain⟨u,w',rfl,r1,r2⟩:=Rl r
 cases r2;exact Sq I r1 ty e λtk=>⟨.bl _,H,I.tok _,rfl,q⟩
theorem call_isinstR:CallR X (.builtin "isinstance") (λxs H Q=>∃ x c t b,xs=[x,.ref c]/\TyOf X.K H x t/\W.kitOne X.K t (.ref c)=some b/\Q (.bl b) H):=by
 intro pins s σ H xs us Q I r h;obtain⟨x,c,t,b,rfl,ty,e,q⟩:=h;obtain⟨u,w',rfl,r1,r2⟩:=Rl r
 cases r2;exact Sq I r1 ty e λtk=>⟨.bl _,H,I.tok _,rfl,q⟩
theorem Rz:CallR X (.builtin "isinstance") (λxs H Q=>∃ a ys c b,xs=[V.ref a,.ty c]/\((SqT X.K H a ys/\W.kitOne X.K (.type "tuple") (.type c)=some b)\/(SqL X.K H a ys/\W.kitOne X.K (.type "list") (.type c)=some b))/\Q (.bl b) H):=by
 intro pins s σ H xs us Q I r h;obtain⟨a,ys,c,b,rfl,ty,q⟩:=h;obtain⟨u,w',rfl,r1,r2⟩:=Rl r
 cases r2
 cases r1;rcases ty with ⟨ty,e⟩|⟨ty,e⟩
 . obtain⟨its,_,p,_⟩:=I.tuple ty;obtain⟨o,h1,h2,_⟩:=p;exact A1E A5B I.kIn ⟨o,h1,h2⟩ e (λz=>nomatch z) λtk=>⟨.bl _,H,I.tok _,rfl,q⟩
 obtain⟨its,_,p,_⟩:=I.list ty;obtain⟨o,h1,h2,_⟩:=p.isList;exact A1E A45 I.kIn ⟨o,h1,h2⟩ e (λz=>nomatch z) λtk=>⟨.bl _,H,I.tok _,rfl,q⟩
theorem ae8 {bs:List Bool}{its:List Value}(r:Vals (bs.map V.bl) its)(i:Nat)(v:Value)(h:its[i]? = some v):∃ b,bs[i]? = some b/\v = .bool b:=by
 have hl:=r.length;have hi:i<its.length:=(A00.mp h).1;have hb:i<bs.length:=by rw[A02] at hl;omega
 obtain⟨u,hu,ru⟩:=r.get (i:=i) (x:=.bl bs[i]) (by rw[A08,A05 hb];rfl);rw[h] at hu
 cases hu;exact⟨bs[i],A05 hb,ru⟩
theorem a59 (bs:List Bool):(List.range bs.length).all (λi=>(bs[i]?).getD false)=bs.all id:=by
 rw[A3T,A1B,A1B];constructor
 . intro h b hb;obtain⟨i,hi,e⟩:=List.mem_iff_getElem.mp hb;have:=h i (A2A.mpr hi);rw[A05 hi] at this;rw[<- e];exact this
 intro h i hi;rw[A05 (A2A.mp hi)];exact h _ (List.getElem_mem _)
theorem ac6 (hc:X.calm=true):CallR X (.builtin "all") (λxs H Q=>∃(a:Addr) (bs:List Bool),xs=[.ref a]/\SqL X.K H a (bs.map V.bl)/\Q (.bl (bs.all id)) H):=by
 intro pins s σ H xs us Q I r h;obtain⟨a,bs,rfl,hl,q⟩:=h;obtain⟨u,rfl,ru⟩:=K6 r
 cases ru;obtain⟨its,rv,pl,hz⟩:=I.list hl;have hlen:=rv.length;have hne:a≠s.heap.objs.size:=by obtain⟨o,n,ho,_⟩:=pl;exact A0K (A06 ho)
 refine call_all_walk (A48 pl.isList ?_);refine⟨_,_,_,_,_,_,λi=>(bs[i]?).getD false,rfl,Walks.list (A:=X.A.in1) (I.ok.hd hc) _ a hne its.toArray,⟨⟨_,A0D _ rfl,rfl,rfl⟩,pl.isList.at λo e=>A01 _ e⟩,λi v s' Q' E' hp hq=>?_,λh' tk hk=>?_⟩
 . obtain⟨b,hb,rfl⟩:=ae8 rv i v (by simpa using hp);dsimp only at hq;rw[hb] at hq;exact A3F hq
 refine⟨.bl _,H,I.kept (t':=tk) λb ob e=>hk b ob (λhm=>absurd (Heap.lt_size e) (by rw[show b=s.heap.objs.size by simpa using hm];exact Nat.lt_irrefl _)) (Heap.get?_push_of_some _ e),?_,q⟩;have e1:its.toArray.size=bs.length:=by rw[A0U,<- hlen,A02]
 rw[e1,a59];rfl
end
section
variable {X:Cx}{x:Str}{pos:Pos}
theorem Dt {v:V}(hg:Gl X x)(hm:∃ u,X.mg x=some u/\RelV v u)(hd:(x==("__debug__":Str))=false:=by decide):PE X (.Name x pos) (tC v):=by obtain⟨u,h1,h2⟩:=hm;exact aq8 hg h1 h2 hd
end
section
variable {X:Cx}{K:W.Frag}
def aB2 (K:W.Frag):R2:=λx y H Q=>∃ a b ys,x = .ref a/\y = .ref b/\SqT K H a []/\SqT K H b ys/\Q (.ref b) H
theorem au9:OpR X (binaryOp .Add) (aB2 X.K):=by
 intro pins s σ H x y v u Q I rx ry h;obtain⟨a,b,ys,rfl,rfl,ha,hb,q⟩:=h
 cases rx
 cases ry;obtain⟨its,r1,p1,_⟩:=I.tuple ha;obtain⟨its2,r2,p2,_⟩:=I.tuple hb
 cases r1;obtain⟨⟨cls,dd,data,sl⟩,ho,hc,n,hd⟩:=id p1;obtain⟨⟨cls2,dd2,data2,sl2⟩,ho2,hc2,n2,hd2⟩:=id p2;simp only at hc hd hc2 hd2;subst hc hd hc2 hd2;exact concat_meets ⟨_,ho,rfl⟩ ⟨_,ho2,rfl⟩ noFill_tuple_add seq_tuple_add PySem.F.slot_tuple_add PySem.F.entry_tuple_add (PySem.F.args_tuple_add_2 _ _) (tuple_addW0 a b _ _ n n2 dd dd2 sl sl2 (by simp)) ⟨ho,ho2,⟨.ref b,H,I,rfl,q⟩⟩
def aR6 (K:W.Frag):V->Option Int->Option Int->Hp->VK->Prop:=λx lo hi H Q=>∃ a xs,x = .ref a/\SqT K H a xs/\(HT.sIx xs.length 0 lo=0/\HT.sIx xs.length xs.length hi=xs.length)/\Q (.ref a) H
theorem ag3:SlR X (aR6 X.K):=by
 intro pins s σ H x v vl vu lo hi sl Q I rx hs pl pu h;obtain⟨a,xs,rfl,hx,hw,q⟩:=h
 cases rx;obtain⟨its,r,ht,hz⟩:=I.tuple hx;have hlen:its.toArray.size=xs.length:=by rw[A0U];exact r.length.symm
 refine⟨"tuple",_,PyProof.Rows.slot_tuple_getitem.lookup,ht.typeIs,?_⟩;obtain⟨os,hos,hcs,hds⟩:=id hs;have hTs:s.TypeIs (.ref sl) "slice":=⟨os,hos,hcs⟩;unfold getItem
 try with_reducible refine A20 ?_
 first | refine A03 (A09 ?_) | skip
 refine A03 (wpAny_sequenceKey ht.typeIs ∅ ?_);refine A03 (A36 (name:=Str.ofString "__getitem__") ht.typeIs A2B (A4F A2B ht.typeIs entry_tuple_getitem ?_ (args_tuple_getitem _ _)));refine A03 (m:=Builtin.Tuple.tupleItemsOf (.ref a)) (tupleItemsOf_ ht ?_);refine A03 (A3M hTs ?_);rw[A0R ∅];refine A03 (HT.sliceApplied_gen hs pl pu ?_)
 have yes:(((HT.sIx its.toArray.size 0 lo:Nat):Int)==0&&(1:Int)==1&&(HT.sIx its.toArray.size its.toArray.size hi-HT.sIx its.toArray.size 0 lo)==its.toArray.size)=true:=by rw[hlen,hw.1,hw.2];simp
 show wpAny _ _ (if(((HT.sIx its.toArray.size 0 lo:Nat):Int)==0&&(1:Int)==1&&(HT.sIx its.toArray.size its.toArray.size hi-HT.sIx its.toArray.size 0 lo)==its.toArray.size)=true then _ else _) _ _ s
 rw[A0R yes];have fin:∀ s',s'=s->EP X pins σ Q (.ref a) s':=λs' e=>by subst e;exact⟨.ref a,H,I,rfl,q⟩
 unfold Builtin.Tuple.tupleIsExact;obtain⟨hp,g,d,tk,os⟩:=s;have hT:=ht.typeIs
 repeat (any_goals (first | assumption | wp_step))
 exact⟨_,rfl,A09 (fin _ rfl)⟩
end
theorem Inv.freeze {X:Cx}{pins:List (Addr×Obj)}{σ:St}{H:Hp}{s:Shared}{d:Addr}{kvs:List (Key×V)}{o:Obj}(I:Inv X pins σ H s)(hd:H d=some (.dK kvs))(ho:s.heap.get? d=some o):Inv X pins σ (upd H d (.frz o (.dK kvs))) s:=by
 have nn:∀ b,H b=none->upd H d (.frz o (.dK kvs)) b=none:=λb h=>by rw[Ah (Ne.symm (ne_of_none hd h))];exact h
 have other:∀ b u,H b=some u->u ≠ .dK kvs->upd H d (.frz o (.dK kvs)) b=some u:=λb u h q=>by rw[Ah (ne_of h hd q)];exact h
 refine⟨I.ok,I.os,I.bare,⟨I.base.keep,I.base.slot,λb ob q n hx=>nn b (I.base.free b ob q n hx),I.base.there,λb xs q=>other b _ (I.base.tups b xs q) (by intro z;cases z),λb ob u q=>other b _ (I.base.frzs b ob u q) (by intro z;cases z),λb ps q=>?_⟩,I.loc,I.cell,nn _ I.free,λx c q=>nn _ (I.freeC x c q),λp hp=>?_,λb u q=>?_,I.len⟩
 . obtain⟨more,h⟩:=I.base.tbls b ps q;exact⟨more,other b _ h (by intro z;cases z)⟩
 . obtain⟨a1,a2,a3⟩:=I.pin p hp;exact⟨a1,nn _ a2,a3⟩
 by_cases e:b=d
 . subst e;rw[A9] at q
   cases q;exact⟨ho,(I.hok b _ hd).stay (λc v hc z=>z) (λc z=>other c _ z (by intro w;cases w)) λc xs z=>other c _ z (by intro w;cases w)⟩
 rw[Ah e] at q;exact(I.hok b u q).stay (λc v hc z=>z) (λc z=>other c _ z (by intro w;cases w)) λc xs z=>other c _ z (by intro w;cases w)
def Itd (a:Addr)(o:Obj)(kvs:List (Key×V)):It:=
 ⟨λi H=>H a=some (.frz o (.dK kvs))/\i<kvs.length,λi H x H'=>H'=H/\∃ kv,kvs[i]? = some kv/\x=kV kv.1,λi H=>H a=some (.frz o (.dK kvs))/\kvs.length<=i⟩
theorem Zr {k:Key}{u:Value}(h:Re k u=true):RelV (kV k) u:=by
 rcases C0 h with ⟨i,t,rfl,rfl⟩|⟨x,t,rfl,rfl⟩
 . exact⟨t,rfl⟩
 exact⟨t,rfl⟩
theorem Zj {X:Cx}{pins:List (Addr×Obj)}{σ:St}{H:Hp}{s:Shared}{a:Addr}{kvs:List (Key×V)}{o:Obj}{es:Array DictEntry}{ep:Nat}(I:Inv X pins σ H s)(h:H a=some (.frz o (.dK kvs)))(ho:o.data = .dict es ep):∃ vs,KV kvs vs/\s.heap.DictAt (Ao X.prog X.w) a vs ep:=by
 obtain⟨h1,_,_,vs,r,o',es',ep',h2,c,hd,rest⟩:=I.hok a _ h;rw[h1] at h2
 cases h2;rw[ho] at hd
 cases hd;exact⟨vs,r,o,es,h1,c,ho,rest⟩
theorem KV.get:∀ {kvs:List (Key×V)} {vs:List (Key×Value)} {i:Nat} {kv:Key×V},KV kvs vs->kvs[i]? = some kv->∃ u,vs[i]? = some (kv.1,u)/\RelV kv.2 u
 |_,_,_,_,.nil,e=>by simp at e
 |_,_,0,kv,.cons r _,e=>by simp at e;subst e;exact⟨_,congrArg some (Prod.ext r.1.symm rfl),r.2⟩
 |_,_,i+1,kv,.cons _ t,e=>by obtain⟨u,h1,h2⟩:=KV.get (i:=i) t (by simpa using e);exact⟨u,by simpa using h1,h2⟩
theorem Ss {P:Program}{w:World}{K:W.Frag}{tg:Expr}(a it:Addr)(o:Obj)(kvs:List (Key×V))(es:Array DictEntry)(ep:Nat)(hd:o.data = .dict es ep):a85 P w K tg (Itd a o kvs) [it] it (λi h=>h.IsKeyIter it a i kvs.length ep) where
 mem:=by simp
 obj:=λi h st b hb=>by
  have e:b=it:=by simpa using hb
  subst e;obtain⟨o,e,c,d⟩:=st;exact⟨o,e,λv z=>by rw[d] at z;cases z⟩
 keep:=λi h h' st k=>st.at λo e=>k it (by simp) o e
 item:=by
  intro X hP hw hK hc i pins s σ H E I hf st hg;subst hP hw hK;obtain⟨hH,hi⟩:=hg;obtain⟨vs,rv,hat⟩:=Zj I hH hd;have hl:kvs.length=vs.length:=A2U rv;obtain⟨kv,hkv⟩:∃ kv,kvs[i]? = some kv:=⟨kvs[i],A05 hi⟩;obtain⟨u,hu,_⟩:=KV.get rv hkv;obtain⟨f0,f1,f2,f3,f4,f5⟩:=hf it (by simp);rw[hl] at st;refine wpAny_pyNext_dict_item st hat hu λkey h' hkey hit' hs'=>?_;have I1:Inv X pins σ H {s with heap:=h'}:=I.turned (t':=s.toks) (λb o hb e=>(hs'.2 b hb).trans e) f0 f1 f3 f4 f5
  obtain⟨o',e,c,d⟩:=id hit';exact⟨key,rfl,Xa (s:={s with heap:=h'}) e c d ∅ ⟨kV kv.1,H,I1,Zr hkey,⟨rfl,kv,hkv,rfl⟩,by rw[hl];exact hit',λb hb=>(hf b hb).1⟩⟩
 done:=by intro X hP hw hK hc i pins s σ H E I hf st hg;subst hP hw hK;obtain⟨hH,hi⟩:=hg;obtain⟨vs,rv,hat⟩:=Zj I hH hd;have hl:kvs.length=vs.length:=A2U rv;obtain⟨f0,f1,f2,f3,f4,f5⟩:=hf it (by simp);rw[hl] at st;exact wpAny_pyNext_dict_end (I.ok.hd hc) st hat (List.getElem?_eq_none nofun) λh' eb=>⟨rfl,I.turned (t':=s.toks) (λb o hb e=>eb b o hb e) f0 f1 f3 f4 f5⟩
 self:=λA i s Q E st hQ=>wpAny_pyIter_keyiter st hQ
theorem at7 {X:Cx}{tg:Expr}{pins:List (Addr×Obj)}{σ:St}{H:Hp}{s:Shared}{a:Addr}{kvs:List (Key×V)}{R:It->Hp->Prop}{E:Value->Shared->Prop}(I:Inv X pins σ H s)(h:H a=some (.dK kvs))(q:∀ o,R (Itd a o kvs) (upd H a (.frz o (.dK kvs)))) :
  wpAny (model X.prog X.w) X.A (pyIter (.ref a)) (PIE X pins σ tg R) E s:=by
 obtain⟨_,hs,vs,rv,o,es,ep,ho,c,hd,rest⟩:=I.hok a _ h;have I1:=I.freeze h ho;have hl:kvs.length=vs.length:=A2U rv;refine wpAny_pyIter_dict (knd:=Ao X.prog X.w) hs ⟨o,es,ho,c,hd,rest⟩ ?_;rw[<- hl];refine⟨s.heap.objs.size,[s.heap.objs.size],_,_,_,rfl,I1.kept (t':=s.toks) λb o e=>A01 _ e,Ss a _ o kvs es ep hd,⟨_,A0D _ rfl,rfl,rfl⟩,λb hb=>?_,q o⟩;have e:b=s.heap.objs.size:=by simpa using hb
 subst e;exact I1.fpOk (A07 _) (I1.hok.fresh (A07 _))
theorem ac7 {X:Cx}{tg:Expr}{pins:List (Addr×Obj)}{σ:St}{H:Hp}{s:Shared}{a:Addr}{kvs:List (Key×V)}{o:Obj}{R:It->Hp->Prop}{E:Value->Shared->Prop}(I:Inv X pins σ H s)(h:H a=some (.frz o (.dK kvs)))(q:R (Itd a o kvs) H) :
  wpAny (model X.prog X.w) X.A (pyIter (.ref a)) (PIE X pins σ tg R) E s:=by
 obtain⟨ho',_,hs,vs,rv,o',es,ep,ho,c,hd,rest⟩:=I.hok a _ h;rw[ho'] at ho
 cases ho;have hl:kvs.length=vs.length:=A2U rv;refine wpAny_pyIter_dict (knd:=Ao X.prog X.w) hs ⟨o,es,ho',c,hd,rest⟩ ?_;rw[<- hl];refine⟨s.heap.objs.size,[s.heap.objs.size],_,_,_,rfl,I.kept (t':=s.toks) λb o e=>A01 _ e,Ss a _ o kvs es ep hd,⟨_,A0D _ rfl,rfl,rfl⟩,λb hb=>?_,q⟩;have e:b=s.heap.objs.size:=by simpa using hb
 subst e;exact I.fpOk (A07 _) (I.hok.fresh (A07 _))
theorem Same.seqT {K:W.Frag}{H H':Hp}{a:Addr}{xs:List V}(e:Same H H')(h:SqT K H a xs):SqT K H' a xs:=by
 rcases h with (h|⟨o,h⟩)|h
 . exact .inl (.inl (e _ _ h))
 . exact .inl (.inr ⟨o,e _ _ h⟩)
 exact .inr h
mutual
def Is (K:W.Frag)(H:Hp):PyData->V->Prop
 |.none,v=>v = .non
 |.bool b,v=>v = .bl b
 |.int i,v=>v = .int i
 |.str x,v=>v = .str x
 |.list ds,v=>∃ a xs,v = .ref a/\SqL K H a xs/\IsL K H ds xs
 |.tuple ds,v=>∃ a xs,v = .ref a/\SqT K H a xs/\IsL K H ds xs
 |.dict _,_=>False
def IsL (K:W.Frag)(H:Hp):List PyData->List V->Prop
 | [],vs=>vs=[]
 |d :: ds,vs=>∃ v r,vs=v :: r/\Is K H d v/\IsL K H ds r
end
mutual
theorem Is.mono {K:W.Frag}{H H':Hp}(e:Same H H'):∀(d:PyData) (v:V),Is K H d v->Is K H' d v
 |.none,_,h=>by simp only[Is] at h ⊢;exact h
 |.bool _,_,h=>by simp only[Is] at h ⊢;exact h
 |.int _,_,h=>by simp only[Is] at h ⊢;exact h
 |.str _,_,h=>by simp only[Is] at h ⊢;exact h
 |.list ds,v,h=>by simp only[Is] at h ⊢;obtain⟨a,xs,e1,e2,e3⟩:=h;exact⟨a,xs,e1,e.seq e2,IsL.mono e ds xs e3⟩
 |.tuple ds,v,h=>by simp only[Is] at h ⊢;obtain⟨a,xs,e1,e2,e3⟩:=h;exact⟨a,xs,e1,e.seqT e2,IsL.mono e ds xs e3⟩
 |.dict _,_,h=>by simp only[Is] at h
theorem IsL.mono {K:W.Frag}{H H':Hp}(e:Same H H'):∀(ds:List PyData) (vs:List V),IsL K H ds vs->IsL K H' ds vs
 | [],_,h=>by simp only[IsL] at h ⊢;exact h
 |d :: ds,vs,h=>by simp only[IsL] at h ⊢;obtain⟨v,r,e1,e2,e3⟩:=h;exact⟨v,r,e1,Is.mono e d v e2,IsL.mono e ds r e3⟩
end
section
variable {X:Cx}{pins:List (Addr×Obj)}{σ:St}{H:Hp}{s:Shared}
mutual
theorem Is.reads (I:Inv X pins σ H s):∀(d:PyData) (v:V) (u:Value),Is X.K H d v->RelV v u->∃ as,Reads s.heap u d as
 |.none,v,u,i,r=>by
   simp only[Is] at i;subst i
   cases r;exact⟨_,.none⟩
 |.bool b,v,u,i,r=>by
   simp only[Is] at i;subst i
   cases r;exact⟨_,.bool b⟩
 |.int n,v,u,i,r=>by simp only[Is] at i;subst i;obtain⟨t,rfl⟩:=r;exact⟨_,.int n t⟩
 |.str x,v,u,i,r=>by simp only[Is] at i;subst i;obtain⟨t,rfl⟩:=r;exact⟨_,.str x t⟩
 |.list ds,v,u,i,r=>by
   simp only[Is] at i;obtain⟨a,xs,rfl,e2,e3⟩:=i
   cases r;obtain⟨its,rv,⟨o,n,e,hc,hd,hs⟩,_⟩:=I.list e2;obtain⟨as,ra⟩:=IsL.reads I ds xs its e3 rv;exact⟨_,.list e hc hs (by simpa using ra)⟩
 |.tuple ds,v,u,i,r=>by
   simp only[Is] at i;obtain⟨a,xs,rfl,e2,e3⟩:=i
   cases r;obtain⟨its,rv,⟨o,e,hc,n,hd⟩,_⟩:=I.tuple e2;obtain⟨as,ra⟩:=IsL.reads I ds xs its e3 rv;exact⟨_,.tuple e hc hd (by simpa using ra)⟩
 |.dict _,_,_,i,_=>by simp only[Is] at i
theorem IsL.reads (I:Inv X pins σ H s):∀(ds:List PyData) (vs:List V) (us:List Value),IsL X.K H ds vs->Vals vs us->∃ as,ReadsAll s.heap us ds as
 | [],vs,us,i,r=>by
   simp only[IsL] at i;subst i
   cases r;exact⟨_,.nil⟩
 |d :: ds,vs,us,i,r=>by
   simp only[IsL] at i;obtain⟨v,rr,rfl,e2,e3⟩:=i
   cases r with
   |cons r1 r2=>obtain⟨a1,h1⟩:=Is.reads I d v _ e2 r1;obtain⟨a2,h2⟩:=IsL.reads I ds rr _ e3 r2;exact⟨_,.cons h1 h2⟩
end
end
theorem Zi {K:W.Frag}{H:Hp}:∀ ns:List Int,IsL K H (ns.map PyData.int) (ns.map V.int)
 | []=>by simp only[List.map_nil,IsL]
 |n :: r=>by simp only[List.map_cons,IsL];exact⟨_,_,rfl,by simp only[Is],Zi r⟩
theorem Oe {K:W.Frag}{H:Hp}:∀ ns:List Str,IsL K H (ns.map PyData.str) (ns.map V.str)
 | []=>by simp only[List.map_nil,IsL]
 |n :: r=>by simp only[List.map_cons,IsL];exact⟨_,_,rfl,by simp only[Is],Oe r⟩
theorem Vt {K:W.Frag}{H:Hp}{a:Addr}{ns:List Int}(h:SqL K H a (ns.map V.int)):Is K H (.list (ns.map PyData.int)) (.ref a):=by simp only[Is];exact⟨a,_,rfl,h,Zi ns⟩
structure QA (A:Around):Prop where
 un:A.units+150<cLine
 gd:A.guards=some []
theorem Cf {A:Around}{k:Nat}(hr:Room k A):QA A:=⟨by have:=hr.un;omega,hr.gd⟩
section
variable {X:Cx}
def X3 (K:W.Frag):R2:=λx y H Q=>(∃ i j,x = .int i/\y = .int j/\Q (.int (i+j)) H)\/(∃ i j,x = .str i/\y = .str j/\i.length+j.length<=sizeLine/\Q (.str (i++j)) H)\/aS0 x y H Q\/aC2 K x y H Q\/aB2 K x y H Q
theorem aw6:OpR X (binaryOp .Add) (X3 X.K):=op_add.or (op_add_str.or (op_cat.or (op_catT.or au9)))
def ag1:R2:=λx y H Q=>(∃ i j,x = .int i/\y = .int j/\CMul i j/\Q (.int (i*j)) H)\/aR1 x y H Q
theorem op_mulA:OpR X (binaryOp .Mult) ag1:=op_mul.or aH3
theorem L7:OpR X (binaryOp .FloorDiv) (rI aO7 λi j=>.int (i / j)):=ar6
def aL9 (K:W.Frag)(neg:Bool):R2:=λx y H Q=>∃ dx dy,Is K H dx x/\Is K H dy y/\SeqAt.shaped dx=true/\SeqAt.shaped dy=true/\Q (.bl (if neg then !PyData.eqv dx dy else PyData.eqv dx dy)) H
theorem ay9 (hq:QA X.A):OpR X (compareOp .Eq) (aL9 X.K false):=by intro pins s σ H x y v u Q I rx ry h;obtain⟨dx,dy,ix,iy,sx,sy,q⟩:=h;obtain⟨as,ra⟩:=Is.reads I dx x v ix rx;obtain⟨bs,rb⟩:=Is.reads I dy y u iy ry;exact eq_dataH ra rb sx sy (by have:=hq.un;omega) ⟨.bl _,H,I,rfl,q⟩
theorem aE5 (hq:QA X.A):OpR X (compareOp .NotEq) (aL9 X.K true):=by intro pins s σ H x y v u Q I rx ry h;obtain⟨dx,dy,ix,iy,sx,sy,q⟩:=h;obtain⟨as,ra⟩:=Is.reads I dx x v ix rx;obtain⟨bs,rb⟩:=Is.reads I dy y u iy ry;exact ne_dataH ra rb sx sy (by have:=hq.un;omega) ⟨.bl _,H,I,rfl,q⟩
def aM1 (K:W.Frag):R2:=λx y H Q=>rEq x y H Q\/aL9 K false x y H Q
def aO2 (K:W.Frag):R2:=λx y H Q=>rNe x y H Q\/aL9 K true x y H Q
theorem aC4 (hq:QA X.A):OpR X (compareOp .Eq) (aM1 X.K):=op_eq.or (ay9 hq)
theorem aD6 (hq:QA X.A):OpR X (compareOp .NotEq) (aO2 X.K):=op_ne.or (aE5 hq)
def rInT (neg:Bool):R2:=λx y H Q=>∃ i j,x = .str i/\y = .str j/\Q (.bl (if neg then !(!(Builtin.Str.occurrences j i 0 j.length 1).isEmpty) else !(Builtin.Str.occurrences j i 0 j.length 1).isEmpty)) H
def aO0 (neg:Bool):R2:=λx y H Q=>∃ a o,y = .ref a/\DGet H a x o/\Q (.bl (if neg then !o.isSome else o.isSome)) H
theorem az2 (hu:X.A.units+1<cLine):OpR X (compareOp .In) (aO0 false):=by
 intro pins s σ H x y v u Q I rx ry h;obtain⟨a,o,rfl,g,q⟩:=h
 cases ry;exact d_in hu I g rx λs' I'=>⟨.bl _,H,I',rfl,q⟩
theorem Y3 (hu:X.A.units+1<cLine):OpR X (compareOp .NotIn) (aO0 true):=by
 intro pins s σ H x y v u Q I rx ry h;obtain⟨a,o,rfl,g,q⟩:=h
 cases ry;exact as8 hu I g rx λs' I'=>⟨.bl _,H,I',rfl,q⟩
def aM5 (K:W.Frag)(neg:Bool):R2:=λx y H Q=>∃ d ds,Is K H d x/\(Is K H (.list ds) y\/Is K H (.tuple ds) y)/\PyData.canLayAll0 ds=true/\d.canLay0=true/\d.depth<=100/\Q (.bl (if neg then !(ds.any λe=>PyData.eqv e d) else ds.any λe=>PyData.eqv e d)) H
theorem ay2 (hq:QA X.A):OpR X (compareOp .In) (aM5 X.K false):=by
 intro pins s σ H x y v u Q I rx ry h;obtain⟨d,ds,ix,iy,h1,h2,h3,q⟩:=h;obtain⟨bs,rb⟩:=Is.reads I d x v ix rx;rcases iy with iy|iy
 . obtain⟨as,ra⟩:=Is.reads I _ y u iy ry;exact SeqAt.in_list_reads ra rb h1 h2 (by have:=hq.un;have:=A3Q (PyData.depthAll ds) d.depth;omega) ⟨.bl _,H,I,rfl,q⟩
 obtain⟨as,ra⟩:=Is.reads I _ y u iy ry;exact SeqAt.in_tuple_reads ra rb h1 h2 (by have:=hq.un;have:=A3Q (PyData.depthAll ds) d.depth;omega) ⟨.bl _,H,I,rfl,q⟩
theorem Zo (hq:QA X.A):OpR X (compareOp .NotIn) (aM5 X.K true):=by
 intro pins s σ H x y v u Q I rx ry h;obtain⟨d,ds,ix,iy,h1,h2,h3,q⟩:=h;obtain⟨bs,rb⟩:=Is.reads I d x v ix rx;rcases iy with iy|iy
 . obtain⟨as,ra⟩:=Is.reads I _ y u iy ry;exact SeqAt.notIn_list_reads ra rb h1 h2 (by have:=hq.un;have:=A3Q (PyData.depthAll ds) d.depth;omega) ⟨.bl _,H,I,rfl,q⟩
 obtain⟨as,ra⟩:=Is.reads I _ y u iy ry;exact SeqAt.notIn_tuple_reads ra rb h1 h2 (by have:=hq.un;have:=A3Q (PyData.depthAll ds) d.depth;omega) ⟨.bl _,H,I,rfl,q⟩
def Xf (K:W.Frag)(neg:Bool):R2:=λx y H Q=>rIn K neg x y H Q\/rInT neg x y H Q\/aO0 neg x y H Q\/aM5 K neg x y H Q
theorem QA.hu {A:Around}(h:QA A):A.units+1<cLine:=by have:=h.un;omega
theorem aG8 (hq:QA X.A):OpR X (compareOp .In) (Xf X.K false):=op_in_seq.or (op_in_str.or ((az2 hq.hu).or (ay2 hq)))
theorem Zx (hq:QA X.A):OpR X (compareOp .NotIn) (Xf X.K true):=op_notIn_seq.or (op_notIn_str.or ((Y3 hq.hu).or (Zo hq)))
def aL3 (K:W.Frag):V->Option Int->Option Int->Hp->VK->Prop:=λx lo hi H Q=>aR8 K x lo hi H Q\/aR2 K x lo hi H Q\/aQ2 x lo hi H Q\/aR6 K x lo hi H Q
theorem sl_A:SlR X (aL3 X.K):=sl_list.or (sl_tup.or (sl_str.or ag3))
def aS5:R2:=λx y H Q=>∃ a v,x = .ref a/\DGet H a y (some v)/\Q v H
theorem an1 (hu:X.A.units+1<cLine):IxR X aS5:=by
 intro value slice pins s σ H x y v u Q I rx ry h hs;obtain⟨a,z,rfl,g,q⟩:=h
 cases rx;exact tail_any (Uq I g) PySem.F.slot_dict_getitem.lookup (a68 hu I g ry λw' s' I' rw'=>⟨z,H,I',rw',q⟩) hs
def Ui (K:W.Frag):R2:=λx y H Q=>rIx K x y H Q\/aS5 x y H Q
theorem aI6 (hu:X.A.units+1<cLine):IxR X (Ui X.K):=ix_seq.or (an1 hu)
def Tz (K:W.Frag):List V->Hp->VK->Prop:=λxs H Q=>(∃ x n,xs=[x]/\aR5 K x H n/\Q (.int n) H)\/∃ a kvs,xs=[V.ref a]/\H a=some (.dK kvs)/\Q (.int kvs.length) H
theorem a87:CallR X (.builtin "len") (Tz X.K):=call_len.or Zz
def Kc (K:W.Frag):List V->Hp->VK->Prop:=λxs H Q=>(∃ x c t b,xs=[x,.ty c]/\TyOf K H x t/\W.kitOne K t (.type c)=some b/\Q (.bl b) H)\/(∃ x c t b,xs=[x,.ref c]/\TyOf K H x t/\W.kitOne K t (.ref c)=some b/\Q (.bl b) H)\/∃ a ys c b,xs=[V.ref a,.ty c]/\((SqT K H a ys/\W.kitOne K (.type "tuple") (.type c)=some b)\/(SqL K H a ys/\W.kitOne K (.type "list") (.type c)=some b))/\Q (.bl b) H
theorem Td:CallR X (.builtin "isinstance") (Kc X.K):=call_isinst.or (call_isinstR.or Rz)
def Vc (K:W.Frag):List V->Hp->VK->Prop:=λxs H Q=>∃ p ys,xs=[.ref p]/\(SqL K H p ys\/SqT K H p ys)/\∀ l,H l=none->Q (.ref l) (upd H l (.lst ys))
theorem X5:CallR X (.type "list") (Vc X.K):=Si
def Lr (K:W.Frag):List V->Hp->VK->Prop:=λxs H Q=>∃ p ys,xs=[.ref p]/\((SqL K H p ys/\∀ l,H l=none->Q (.ref l) (upd H l (.tup ys)))\/(SqT K H p ys/\Q (.ref p) H))
theorem Tu:CallR X (.type "tuple") (Lr X.K):=Rm
def aB6:List V->Hp->VK->Prop:=λxs H Q=>(∃ b,xs=[.bl b]/\Q (.str (if b then "True" else "False")) H)\/(xs=[.non]/\Q (.str "None") H)
theorem Pr:CallR X (.builtin "repr") aB6:=Ws
def aD1:List V->Hp->VK->Prop:=λxs H Q=>(∃ i,xs=[.int i]/\Q (.int i) H)\/∃ k,xs=[.bl k]/\Q (.int (if k then 1 else 0)) H
theorem Sy:CallR X (.type "int") aD1:=a80
def av8 (K:W.Frag):List V->Hp->VK->Prop:=λxs H Q=>∃(a:Addr) (bs:List Bool),xs=[.ref a]/\SqL K H a (bs.map V.bl)/\Q (.bl (bs.all id)) H
theorem Xz (hc:X.calm=true):CallR X (.builtin "all") (av8 X.K):=ac6 hc
variable {tg:Expr}
def Ge (K:W.Frag)(x:V)(H1:Hp)(R:It->Hp->Prop):Prop:=(∃ a,x = .ref a/\(∃ xs,SqL K H1 a xs)/\R (Itl K a) H1)\/(∃ a,x = .ref a/\(∃ xs,SqT K H1 a xs)/\R (Itt K a) H1)\/(∃ z,x = .str z/\R (Its z) H1)\/∃ a kvs,x = .ref a/\((H1 a=some (.dK kvs)/\∀ o,R (Itd a o kvs) (upd H1 a (.frz o (.dK kvs))))\/∃ o,H1 a=some (.frz o (.dK kvs))/\R (Itd a o kvs) H1)
def aM4 (K:W.Frag)(tl:TE):TI:=fun σ H R=>tl σ H λx H1=>Ge K x H1 R
theorem az5 (hu:X.A.units+1<cLine){l:Expr}{tl:TE}(hl:PE X l tl):PI X tg l (aM4 X.K tl):=by
 intro pins s σ H R I h;refine thn (hl pins s σ H _ I h) λv s1 ⟨x,H1,I1,r1,q1⟩=>?_;rcases q1 with ⟨a,e,⟨xs,hq⟩,q⟩|⟨a,e,⟨xs,hq⟩,q⟩|⟨z,e,q⟩|⟨a,kvs,e,q⟩
 . subst e
   cases r1;obtain⟨its,rv,p,hz⟩:=I1.list hq;refine A48 p.isList ?_;refine⟨s1.heap.objs.size,[s1.heap.objs.size],_,_,H1,rfl,I1.kept (t':=s1.toks) λb o e=>A01 _ e,Y6 a _,⟨_,A0D _ rfl,rfl,rfl⟩,λb hb=>?_,q⟩;have e:b=s1.heap.objs.size:=by simpa using hb
   subst e;exact I1.fpOk (A07 _) (I1.hok.fresh (A07 _))
 . subst e
   cases r1;obtain⟨its,rv,p,hz⟩:=I1.tuple hq;refine A2Q (show s1.heap.IsTuple a its.toArray from p) ?_;refine⟨s1.heap.objs.size,[s1.heap.objs.size],_,_,H1,rfl,I1.kept (t':=s1.toks) λb o e=>A01 _ e,Wx a _,⟨_,A0D _ rfl,rfl,rfl⟩,λb hb=>?_,q⟩;have e:b=s1.heap.objs.size:=by simpa using hb
   subst e;exact I1.fpOk (A07 _) (I1.hok.fresh (A07 _))
 . subst e;exact aA5 I1 r1 q
 subst e
 cases r1;rcases q with ⟨hd,q⟩|⟨o,hd,q⟩
 . exact at7 I1 hd q
 exact ac7 I1 hd q
end
def Fnd (P:Program)(w:World)(K:W.Frag)(mg:Str->Option Value)(base:Heap)(k:Nat)(x:Str)(ps:List Str)(sp:Sp):Prop:=
 ∃ f fd,FnOk P w K mg base CX0 k f fd ps sp/\mg x=some (.ref f)/\W.keepIn K (.ref f)=true/\Binds K fd ps []
section
variable {X:Cx}{k:Nat}{x:Str}{ps:List Str}{sp:Sp}{e:Expr}{es:List Expr}{t:TA}{p pos:Pos}
theorem Ch (F:Fnd X.prog X.w X.K X.mg X.base k x ps sp)(hr:Room k X.A)(hg:Gl X x)(ha:PA X (e :: es) t)(hdb:(x==("__debug__":Str))=false:=by decide)
  (he:starEach (e :: es) X.env=(false,eval e X.env) :: starEach es X.env:=by ac_nf) (hpl:(backTo pos (starEach es X.env)).any (·.1)=false:=by ac_nf):PE X (.Call (.Name x p) (e :: es) [] pos) (a81 sp [] E0 t):=by
 obtain⟨f,fd,h1,h2,h3,h4⟩:=F;exact Ye h1 hr hg h2 h3 h4 .nil aa7 ha hdb he hpl
end
def ExtBut (d:Addr)(H H':Hp):Prop:=∀ b o,b≠d->H b=some o->H' b=some o
theorem Same.lk {H H':Hp}{a:Addr}{o:HO}(e:Same H H')(h:H a=some o):H' a=some o:=e a o h
theorem ExtBut.lk {d:Addr}{H H':Hp}{a:Addr}{o:HO}(e:ExtBut d H H')(h:H a=some o)(n:a≠d):H' a=some o:=e a o n h
theorem Same.upd {H:Hp}{p:Addr}{o:HO}(h:H p=none):Same H (upd H p o):=λb u e=>by rw[Ah (ne_of_none e h)];exact e
theorem ExtBut.upd {H:Hp}{p:Addr}{o:HO}:ExtBut p H (upd H p o):=λb u n e=>by rw[Ah n];exact e
theorem Same.but {d:Addr}{H H':Hp}(e:Same H H'):ExtBut d H H':=λb o _ h=>e b o h
theorem ExtBut.trans {d:Addr}{H H1 H2:Hp}(a:ExtBut d H H1)(b:ExtBut d H1 H2):ExtBut d H H2:=λc o n h=>b c o n (a c o n h)
theorem ExtBut.same {d:Addr}{H H1 H2:Hp}(a:ExtBut d H H1)(b:Same H1 H2):ExtBut d H H2:=λc o n h=>b c o (a c o n h)
theorem ExtBut.refl {d:Addr}{H:Hp}:ExtBut d H H:=λ_ _ _ h=>h
def az8 (xs:List V)(H:Hp)(Q:VK):Prop:=xs.length<=sizeLine/\∀ p,H p=none->Q (.ref p) (upd H p (.tup xs))
def aI3 (xs:List V)(H:Hp)(Q:VK):Prop:=xs.length<=sizeLine/\∀ p,H p=none->Q (.ref p) (upd H p (.lst xs))
def aE7 (vs:List V)(H:Hp)(R:It->Hp->Prop):Prop:=∃ j:Int,vs=[.int j] /\ -(2 ^ 62)<=j/\j<2 ^ 62/\R (Itr 0 j.toNat) H
def aD9 (vs:List V)(H:Hp)(R:It->Hp->Prop):Prop:=∃ i j:Int,vs=[.int i,.int j]/\(-(2 ^ 62)<=i/\i<2 ^ 62 /\ -(2 ^ 62)<=j/\j<2 ^ 62)/\R (Itr i (j-i).toNat) H
def ak0 (g:TG)(tb:TS)(D:Ends)(σ:St)(J:It)(H1:Hp):Prop:=∃ W:Nat->Nat->St->Hp->Prop,(∃ m,W 0 m σ H1)/\∀ i m σ H,W i m σ H ->
 (J.stop i H/\D.nx σ H)\/(J.go i H/\∃ N:St->Hp->Prop,(∀ σ' H',N σ' H'->∃ m',m'<m/\W (i+1) m' σ' H')/\∀ x H',J.yld i H x H'->g x σ H' fun σ2 H2=>tb {D with nx:=N,ct:=N,bk:=D.nx} σ2 H2)
def Ov (k:Nat)(js:List Nat)(g:TG)(tt:TT)(te:TE)(σ:St)(J:It)(H1:Hp)(Q:VK):Prop:=∀ p,H1 p=none ->
 ∃ W:Nat->Nat->Hp->Prop,(∃ m,W 0 m (upd H1 p (.lst [])))/\∀ i m H,W i m H ->
  (J.stop i H/\Q (.ref p) H)\/(J.go i H/\∃ N:Hp->Prop,(∀ H',N H'->∃ m',m'<m/\W (i+1) m' H') /\
   ∀ x H',J.yld i H x H'->g x (List.replicate k none++Pp σ js) H' fun σ2 H2=>tt σ2 H2 λb H3=>if b=true then te σ2 H3 λy H4=>∃ acc,H4 p=some (.lst acc)/\acc.length<sizeLine/\N (upd H4 p (.lst (acc++[y]))) else N H3)
def aj2 (p:Addr)(ps:List (V×V))(H:Hp)(Q:VK):Prop:=H p=some (.dK [])/\∃ kvs:List (Key×V),ps=kvs.map (λkv=>(kV kv.1,kv.2))/\kvs.length<=15/\Q (.ref p) (upd H p (.dK (Gf [] kvs)))
section
variable {K:W.Frag}{σ:St}{H:Hp}{Q:VK}{D:Ends}{ta tb te:TE}{c:TT}{t u:TS}{x y v:V}{i j:Int}
theorem i_var {n:Nat}(h:σ[n]? = some (some v))(k:Q v H):aN1 n σ H Q:=⟨v,h,k⟩
theorem i_c (k:Q v H):tC v σ H Q:=k
theorem i_next (k:D.nx σ H):aE1 D σ H:=k
theorem i_ret (k:te σ H D.rt):aS9 te D σ H:=k
theorem i_drop (k:te σ H λ_ H1=>D.nx σ H1):aJ0 te D σ H:=k
theorem i_asg {g:TG}(k:te σ H λx H1=>g x σ H1 D.nx):aI0 te g D σ H:=k
theorem i_gname {n:Nat}{R:St->Hp->Prop}(k:R (σ.set n (some v)) H):M9 n v σ H R:=k
theorem i_if (k:c σ H λb H1=>if b=true then t D σ H1 else u D σ H1):aS3 c t u D σ H:=k
theorem i_op {r:R2}(k:ta σ H λx H1=>tb σ H1 λy H2=>r x y H2 Q):tOp r ta tb σ H Q:=k
theorem i_un {r:V->Hp->VK->Prop}(k:ta σ H λx H1=>r x H1 Q):tUn r ta σ H Q:=k
theorem i_rU {g:Int->V}(k:Q (g i) H):rU g (.int i) H Q:=⟨i,rfl,k⟩
theorem i_rI0 {g:Int->Int->V}(k:Q (g i j) H):rI0 g (.int i) (.int j) H Q:=⟨i,j,rfl,rfl,k⟩
theorem i_rI {C:Int->Int->Prop}{g:Int->Int->V}(h:C i j)(k:Q (g i j) H):rI C g (.int i) (.int j) H Q:=⟨i,j,rfl,rfl,h,k⟩
theorem i_addI (k:Q (.int (i+j)) H):X3 K (.int i) (.int j) H Q:=.inl ⟨i,j,rfl,rfl,k⟩
theorem i_addS {a b:Str}(h:a.length+b.length<=sizeLine)(k:Q (.str (a++b)) H):X3 K (.str a) (.str b) H Q:=.inr (.inl ⟨a,b,rfl,rfl,h,k⟩)
theorem Jq {a b:Addr}{xs ys:List V}(h1:H a=some (.lst xs))(h2:H b=some (.lst ys))(h:xs.length+ys.length<=sizeLine)(k:∀ p H',H p=none->Same H H'->H' p=some (.lst (xs++ys))->Q (.ref p) H'):X3 K (.ref a) (.ref b) H Q:=
 .inr (.inr (.inl ⟨a,b,xs,ys,rfl,rfl,h1,h2,h,λp hp=>k p _ hp (Same.upd hp) A9⟩))
theorem aL2 (h:CMul i j)(k:Q (.int (i*j)) H):ag1 (.int i) (.int j) H Q:=.inl ⟨i,j,rfl,rfl,h,k⟩
theorem aF3 {a:Addr}{xs:List V}(h1:H a=some (.lst xs))(h2:-(2 ^ 63)<=i/\i<2 ^ 63)(h3:xs.length*i.toNat<=sizeLine)(k:∀ p H',H p=none->Same H H'->H' p=some (.lst (List.replicate i.toNat xs).flatten)->Q (.ref p) H'):ag1 (.ref a) (.int i) H Q:=
 .inr ⟨a,i,xs,rfl,rfl,h1,h2.1,h2.2,h3,λp hp=>k p _ hp (Same.upd hp) A9⟩
theorem i_eqS (h:aP1 x y=true)(k:Q (.bl (decide (x=y))) H):aM1 K x y H Q:=.inl ⟨h,k⟩
theorem a70 {dx dy:PyData}(h1:Is K H dx x)(h2:Is K H dy y)(h3:SeqAt.shaped dx=true)(h4:SeqAt.shaped dy=true)(k:Q (.bl (PyData.eqv dx dy)) H):aM1 K x y H Q:=.inr ⟨dx,dy,h1,h2,h3,h4,k⟩
theorem aM6 {dx dy:PyData}(h1:Is K H dx x)(h2:Is K H dy y)(h3:SeqAt.shaped dx=true)(h4:SeqAt.shaped dy=true)(k:Q (.bl (!PyData.eqv dx dy)) H):aO2 K x y H Q:=.inr ⟨dx,dy,h1,h2,h3,h4,k⟩
theorem i_true {R:Bool->Hp->Prop}(k:R true H):ag2 σ H R:=k
theorem i_tTest {R:Bool->Hp->Prop}(k:te σ H λx H'=>∃ b,x = .bl b/\R b H'):aH1 te σ H R:=k
theorem i_tB {R:Bool->Hp->Prop}(k:te σ H λx H'=>∃ b,x = .bl b/\R b H'):tB te σ H R:=k
theorem i_bl {b:Bool}{R:Bool->Prop}(k:R b):∃ c,V.bl b = .bl c/\R c:=⟨b,rfl,k⟩
theorem i_not {R:Bool->Hp->Prop}(k:c σ H λb H1=>R (!b) H1):aS2 c σ H R:=k
theorem i_and {c':TT}{R:Bool->Hp->Prop}(k:c σ H λb H1=>if b=true then c' σ H1 R else R false H1):aQ8 c c' σ H R:=k
theorem i_or {c':TT}{R:Bool->Hp->Prop}(k:c σ H λb H1=>if b=true then R true H1 else c' σ H1 R):tOr c c' σ H R:=k
theorem Lo {a:Addr}{xs:List V}(h:H a=some (.lst xs))(e:atI xs i=some v)(k:Q v H):Ui K (.ref a) (.int i) H Q:=.inl (.inl ⟨a,xs,i,v,rfl,rfl,SqL.of h,e,k⟩)
theorem ao6 {z:Str}{s:Nat}(h:z.length<=sizeLine)(e:atI z.cps.toList i=some s)(k:Q (.str ⟨#[s]⟩) H):Ui K (.str z) (.int i) H Q:=.inl (.inr (.inr ⟨z,i,s,rfl,rfl,h,e,k⟩))
theorem i_ixD {a:Addr}{kvs:List (Key×V)}{z:Str}(h:H a=some (.dK kvs))(e:Dj kvs (Sum.inr z:Key)=some v)(k:Q v H):Ui K (.ref a) (.str z) H Q:=.inr ⟨a,v,rfl,by rw[<- e];exact DGet.k (k:=Sum.inr z) h,k⟩
theorem i_lenL {a:Addr}{xs:List V}(h:H a=some (.lst xs))(k:Q (.int xs.length) H):Tz K [.ref a] H Q:=.inl ⟨.ref a,_,rfl,.inl ⟨xs,SqL.of h,rfl⟩,k⟩
theorem i_lenS {z:Str}(h:z.length<=sizeLine)(k:Q (.int z.length) H):Tz K [.str z] H Q:=.inl ⟨.str z,_,rfl,⟨h,rfl⟩,k⟩
theorem Rn {c:String}{t:Value}{b:Bool}(h:TyOf K H x t)(e:W.kitOne K t (.type c)=some b)(k:Q (.bl b) H):Kc K [x,.ty c] H Q:=.inl ⟨x,c,t,b,rfl,h,e,k⟩
theorem a00 {c:String}{b:Bool}{a:Addr}{ys:List V}(h:SqT K H a ys)(e:W.kitOne K (.type "tuple") (.type c)=some b)(k:Q (.bl b) H):Kc K [.ref a,.ty c] H Q:=.inr (.inr ⟨a,ys,c,b,rfl,.inl ⟨h,e⟩,k⟩)
theorem Ym {c:String}{b:Bool}{a:Addr}{ys:List V}(h:SqL K H a ys)(e:W.kitOne K (.type "list") (.type c)=some b)(k:Q (.bl b) H):Kc K [.ref a,.ty c] H Q:=.inr (.inr ⟨a,ys,c,b,rfl,.inr ⟨h,e⟩,k⟩)
theorem ar1 {a:Addr}{xs:List V}(h:SqL K H a xs)(k:∀ p H',H p=none->Same H H'->H' p=some (.lst xs)->Q (.ref p) H'):Vc K [.ref a] H Q:=⟨a,xs,rfl,.inl h,λp hp=>k p _ hp (Same.upd hp) A9⟩
theorem Gi {a:Addr}{xs:List V}(h:SqL K H a xs)(k:∀ p H',H p=none->Same H H'->H' p=some (.tup xs)->Q (.ref p) H'):Lr K [.ref a] H Q:=⟨a,xs,rfl,.inl ⟨h,λp hp=>k p _ hp (Same.upd hp) A9⟩⟩
theorem i_intB {b:Bool}(k:Q (.int (if b then 1 else 0)) H):aD1 [.bl b] H Q:=.inr ⟨b,rfl,k⟩
theorem aK5 {a:Addr}{bs:List Bool}(h:SqL K H a (bs.map V.bl))(k:Q (.bl (bs.all id)) H):av8 K [.ref a] H Q:=⟨a,bs,rfl,h,k⟩
theorem i_sl {r:V->Option Int->Option Int->Hp->VK->Prop}{tl th:TO}(k:te σ H λx H1=>tl σ H1 λl H2=>th σ H2 λu H3=>r x l u H3 Q):tSl r te tl th σ H Q:=k
theorem i_noPart {R:Option Int->Hp->Prop}(k:R none H):a75 σ H R:=k
theorem i_part {R:Option Int->Hp->Prop}(k:te σ H λx H1=>∃ i,x = .int i/\R (some i) H1):aF1 te σ H R:=k
theorem i_int {R:Int->Prop}(k:R i):∃ j,V.int i = .int j/\R j:=⟨i,rfl,k⟩
theorem i_slS {z:Str}{lo hi:Option Int}(h:z.length<=sizeLine)(k:Q (.str (Txt.slice z lo hi)) H):aL3 K (.str z) lo hi H Q:=.inr (.inr (.inl ⟨z,rfl,h,k⟩))
theorem Uc {a:Addr}{xs:List V}{lo hi:Option Int}(h:SqL K H a xs)(k:∀ p H',H p=none->Same H H'->H' p=some (.lst (Tp xs lo hi))->Q (.ref p) H'):aL3 K (.ref a) lo hi H Q:=.inl ⟨a,xs,rfl,h,λp hp=>k p _ hp (Same.upd hp) A9⟩
theorem i_inS {a b:Str}(k:Q (.bl (!(Builtin.Str.occurrences b a 0 b.length 1).isEmpty)) H):Xf K false (.str a) (.str b) H Q:=.inr (.inl ⟨a,b,rfl,rfl,k⟩)
theorem i_bm {T:String}{r:V->List V->Hp->VK->Prop}{ts:TA}(k:te σ H λx H1=>tyV K T x H1/\ts σ H1 λxs H2=>r x xs H2 Q):tBM K T r te ts σ H Q:=k
theorem i_bm0 {T:String}{r:V->List V->Hp->VK->Prop}(k:te σ H λx H1=>tyV K T x H1/\r x [] H1 Q):aP3 K T r te σ H Q:=k
theorem i_call {sp:Sp}{E:XK}{ts:TA}(k:ts σ H λvs H1=>sp (vs++[]) H1 Q E):a81 sp [] E ts σ H Q:=k
theorem i_cb {r:List V->Hp->VK->Prop}{ts:TA}(k:ts σ H λvs H1=>r vs H1 Q):tCB r ts σ H Q:=k
theorem i_cons {tr:TA}{R:List V->Hp->Prop}(k:ta σ H λx H1=>tr σ H1 λxs H2=>R (x :: xs) H2):ag4 ta tr σ H R:=k
theorem i_nil {R:List V->Hp->Prop}(k:R [] H):ar4 σ H R:=k
theorem i_tup {ts:TA}(k:ts σ H λxs H1=>az8 xs H1 Q):aR7 ts σ H Q:=k
theorem i_lst {ts:TA}(k:ts σ H λxs H1=>aI3 xs H1 Q):aQ7 ts σ H Q:=k
theorem B7 {xs:List V}(h:xs.length<=sizeLine)(k:∀ p H',H p=none->Same H H'->H' p=some (.tup xs)->Q (.ref p) H'):az8 xs H Q:=⟨h,λp hp=>k p _ hp (Same.upd hp) A9⟩
theorem Bq {xs:List V}(h:xs.length<=sizeLine)(k:∀ p H',H p=none->Same H H'->H' p=some (.lst xs)->Q (.ref p) H'):aI3 xs H Q:=⟨h,λp hp=>k p _ hp (Same.upd hp) A9⟩
theorem Wf (k:∀ p H',H p=none->Same H H'->H' p=some (.dK [])->Q (.ref p) H'):ak6 σ H Q:=λp hp=>k p _ hp (Same.upd hp) A9
theorem i_put {td ty tv:TE}(k:tv σ H λv H1=>td σ H1 λx H2=>ty σ H2 λy H3=>∃ a H4,x = .ref a/\DPut H3 a y v H4/\D.nx σ H4):aJ6 td ty tv D σ H:=k
theorem Jo {a:Addr}{kvs:List (Key×V)}{z:Str}{R:Hp->Prop}(h:H a=some (.dK kvs))(hl:kvs.length<1000)(k:∀ H',ExtBut a H H'->H' a=some (.dK (Fs kvs (Sum.inr z) v))->R H'):∃ b H4,V.ref a = .ref b/\DPut H b (.str z) v H4/\R H4:=
 ⟨a,_,rfl,DPut.k (k:=Sum.inr z) h (a89 (A25 hl)),k _ ExtBut.upd A9⟩
theorem i_for {wi:TI}{g:TG}{tb:TS}(k:wi σ H λJ H1=>ak0 g tb D σ J H1):aS7 wi g tb D σ H:=k
theorem i_comp {m:Nat}{js:List Nat}{wi:TI}{g:TG}{tt:TT}(k:wi σ H λJ H1=>Ov m js g tt te σ J H1 Q):ap5 m js wi g tt te σ H Q:=k
theorem i_itS {z:Str}{R:It->Hp->Prop}(k:R (Its z) H):Ge K (.str z) H R:=.inr (.inr (.inl ⟨z,rfl,k⟩))
theorem Zl {a:Addr}{xs:List V}{R:It->Hp->Prop}(h:SqL K H a xs)(k:R (Itl K a) H):Ge K (.ref a) H R:=.inl ⟨a,rfl,⟨xs,h⟩,k⟩
theorem Nf {a:Addr}{xs:List V}{R:It->Hp->Prop}(h:SqT K H a xs)(k:R (Itt K a) H):Ge K (.ref a) H R:=.inr (.inl ⟨a,rfl,⟨xs,h⟩,k⟩)
theorem aM7 {a:Addr}{kvs:List (Key×V)}{R:It->Hp->Prop}(h:H a=some (.dK kvs))(k:∀ o,R (Itd a o kvs) (upd H a (.frz o (.dK kvs)))):Ge K (.ref a) H R:=.inr (.inr (.inr ⟨a,kvs,rfl,.inl ⟨h,k⟩⟩))
theorem aN5 {a:Addr}{kvs:List (Key×V)}{o:Obj}{R:It->Hp->Prop}(h:H a=some (.frz o (.dK kvs)))(k:R (Itd a o kvs) H):Ge K (.ref a) H R:=.inr (.inr (.inr ⟨a,kvs,rfl,.inr ⟨o,h,k⟩⟩))
theorem i_rng1 {ts:TA}{R:It->Hp->Prop}(k:ts σ H λvs H1=>aE7 vs H1 R):aI7 ts σ H R:=k
theorem Pz {R:It->Hp->Prop}(h:-(2 ^ 62)<=i/\i<2 ^ 62)(k:R (Itr 0 i.toNat) H):aE7 [V.int i] H R:=⟨i,rfl,h.1,h.2,k⟩
theorem i_rng2 {ts:TA}{R:It->Hp->Prop}(k:ts σ H λvs H1=>aD9 vs H1 R):aF7 ts σ H R:=k
theorem aA6 {R:It->Hp->Prop}(h:(-(2 ^ 62)<=i/\i<2 ^ 62) /\ -(2 ^ 62)<=j/\j<2 ^ 62)(k:R (Itr i (j-i).toNat) H):aD9 [V.int i,V.int j] H R:=⟨i,j,rfl,⟨h.1.1,h.1.2,h.2.1,h.2.2⟩,k⟩
theorem i_iany {R:It->Hp->Prop}(k:te σ H λx H1=>Ge K x H1 R):aM4 K te σ H R:=k
theorem Ru {trs:List (TE×TE)}(k:∀ p H1,H p=none->Same H H1->H1 p=some (.dK [])->Na trs σ H1 λps H2=>aj2 p ps H2 Q):aJ5 trs σ H Q:=λp hp=>k p _ hp (Same.upd hp) A9
theorem i_pair {tk tv:TE}{r:List (TE×TE)}{R:List (V×V)->Hp->Prop}(k:tk σ H λx H1=>tv σ H1 λy H2=>Na r σ H2 λps H3=>R ((x,y) :: ps) H3):Na ((tk,tv) :: r) σ H R:=k
theorem Oa {p:Addr}{ps:List (V×V)}(kvs:List (Key×V))(h:H p=some (.dK []))(e:ps=kvs.map (λkv=>(kV kv.1,kv.2)))(hl:kvs.length<=15)(k:∀ H',ExtBut p H H'->H' p=some (.dK (Gf [] kvs))->Q (.ref p) H'):aj2 p ps H Q:=⟨h,kvs,e,hl,k _ ExtBut.upd A9⟩
theorem i_pair0 {R:List (V×V)->Hp->Prop}(k:R [] H):Na [] σ H R:=k
end
theorem Ig {c A B:Prop}[Decidable c](h1:c->A)(h2:¬ c->B):if decide c=true then A else B:=by
 by_cases h:c
 . rw[A0R (A0Z h)];exact h1 h
 rw[A0J (by rw[A0Q h];exact A0F)];exact h2 h
theorem ap6 {c A B:Prop}[Decidable c](h1:¬ c->A)(h2:c->B):if(!decide c)=true then A else B:=by
 by_cases h:c
 . rw[A0Z h,A0J ∅];exact h2 h
 rw[A0Q h,A0R ∅];exact h1 h
theorem ay0 {b:Bool}{A B:Prop}(h1:b=true->A)(h2:b=false->B):if b=true then A else B:=by
 cases b
 . rw[A0J A0F];exact h2 rfl
 rw[A0R rfl];exact h1 rfl
theorem aJ9 {b:Bool}{A B:Prop}(h1:b=false->A)(h2:b=true->B):if(!b)=true then A else B:=by
 cases b
 . exact h1 rfl
 exact h2 rfl
theorem iteNT {A B:Prop}(h:B):if(!true)=true then A else B:=h
theorem iteNF {A B:Prop}(h:A):if(!false)=true then A else B:=h
theorem A8 {n:Nat}(h:n<=1000000):n<=sizeLine:=by rw[A1F];omega
def Gq (J:It)(xs:List V)(G:Hp->Prop):Prop:=
 ∀ i H,G H->(i<xs.length->J.go i H)/\(xs.length<=i->J.stop i H)/\∀ x H',i<xs.length->J.yld i H x H'->H'=H/\xs[i]? = some x
theorem aa5 (z:Str):Gq (Its z) (z.cps.toList.map λc=>.str ⟨#[c]⟩) λ_=>True:=by
 intro i H _;refine⟨λh=>?_,λh=>?_,λx H' _ h=>?_⟩
 . show i<z.cps.size;simpa using h
 . show z.cps.size<=i;simpa using h
 obtain⟨e,c,hc,rfl⟩:=h;refine⟨e,?_⟩;rw[A08,A3N,hc];rfl
theorem Je {K:W.Frag}{a:Addr}{xs:List V}:Gq (Itl K a) xs λH=>SqL K H a xs:=by intro i H g;refine⟨λh=>⟨xs,xs[i],g,A05 h⟩,λh=>⟨xs,g,h⟩,λx H' _ h=>⟨h.1,h.2 xs g⟩⟩
theorem Er {K:W.Frag}{a:Addr}{xs:List V}:Gq (Itt K a) xs λH=>SqT K H a xs:=by intro i H g;refine⟨λh=>⟨xs,xs[i],g,A05 h⟩,λh=>⟨xs,g,h⟩,λx H' _ h=>⟨h.1,h.2 xs g⟩⟩
theorem a54 {a:Addr}{o:Obj}{kvs:List (Key×V)}:Gq (Itd a o kvs) (kvs.map λkv=>kV kv.1) λH=>H a=some (.frz o (.dK kvs)):=by intro i H g;rw[A02];refine⟨λh=>⟨g,h⟩,λh=>⟨g,h⟩,λx H' _ h=>?_⟩;obtain⟨e,kv,h1,h2⟩:=h;exact⟨e,by rw[A08,h1,h2];rfl⟩
theorem Eu {lo:Int}{n:Nat}:Gq (Itr lo n) ((List.range n).map λ(i:Nat)=>V.int (lo+(i:Int))) λ_=>True:=by
 intro i H _;refine⟨λh=>?_,λh=>?_,λx H' hi h=>?_⟩
 . show i<n;simpa using h
 . show n<=i;simpa using h
 obtain⟨e,hx⟩:=h;refine⟨e,?_⟩;have hi':i<n:=by simpa using hi
 rw[A08,List.getElem?_range hi',hx];rfl
theorem a97 {J:It}{xs:List V}{G:Hp->Prop}{g:TG}{tb:TS}{D:Ends}{σ:St}{H:Hp}(hw:Gq J xs G)(Pv:Nat->St->Hp->Prop)(h0:Pv 0 σ H)(hG:∀ i σ H,Pv i σ H->G H)
  (hs:∀ i x σ H,xs[i]? = some x->Pv i σ H->g x σ H fun σ2 H2=>tb {D with nx:=Pv (i+1),ct:=Pv (i+1),bk:=D.nx} σ2 H2) (hd:∀ σ H,Pv xs.length σ H->D.nx σ H) :
  ∃ W:Nat->Nat->St->Hp->Prop,(∃ m,W 0 m σ H)/\∀ i m σ H,W i m σ H ->
   (J.stop i H/\D.nx σ H)\/(J.go i H/\∃ N:St->Hp->Prop,(∀ σ' H',N σ' H'->∃ m',m'<m/\W (i+1) m' σ' H')/\∀ x H',J.yld i H x H'->g x σ H' fun σ2 H2=>tb {D with nx:=N,ct:=N,bk:=D.nx} σ2 H2):=by
 refine⟨λi m σ H=>m=xs.length-i/\i<=xs.length/\Pv i σ H,⟨xs.length,by simp,Nat.zero_le _,h0⟩,?_⟩;rintro i m σ H ⟨rfl,hi,p⟩;obtain⟨w1,w2,w3⟩:=hw i H (hG i σ H p)
 by_cases hlt:i<xs.length
 . refine .inr ⟨w1 hlt,Pv (i+1),fun σ' H' p'=>⟨xs.length-(i+1),by omega,rfl,hlt,p'⟩,λx H' y=>?_⟩;obtain⟨e,hx⟩:=w3 x H' hlt y;subst e;exact hs i x σ _ hx p
 have e:i=xs.length:=by omega
 subst e;exact .inl ⟨w2 (A07 _),hd σ H p⟩
def CN (p:Addr)(n:Nat)(Pv:Nat->List V->Hp->Prop)(i:Nat):Hp->Prop:=λH'=>i+1<=n/\∃ acc,H' p=some (.lst acc)/\acc.length<=i+1/\Pv (i+1) acc H'
theorem aw8 {p:Addr}{n:Nat}{Pv:Nat->List V->Hp->Prop}{i:Nat}{H:Hp}{acc:List V}{y:V}(hn:n<=1000000)(hi:i<n)(hl:acc.length<=i)(e:H p=some (.lst acc))(k:∀ H',ExtBut p H H'->H' p=some (.lst (acc++[y]))->Pv (i+1) (acc++[y]) H') :
  ∃ acc,H p=some (.lst acc)/\acc.length<sizeLine/\CN p n Pv i (upd H p (.lst (acc++[y]))):=
 ⟨acc,e,by rw[A1F];omega,hi,acc++[y],A9,by rw[A0T,A27];omega,k _ ExtBut.upd A9⟩
theorem Zc {p:Addr}{n:Nat}{Pv:Nat->List V->Hp->Prop}{i:Nat}{H:Hp}{acc:List V}(hi:i<n)(hl:acc.length<=i)(e:H p=some (.lst acc))(k:Pv (i+1) acc H):CN p n Pv i H:=⟨hi,acc,e,by omega,k⟩
theorem Yx {J:It}{xs:List V}{G:Hp->Prop}{g:TG}{tt:TT}{te:TE}{σ:St}{H:Hp}{Q:VK}{p:Addr}{k:Nat}{js:List Nat}(hw:Gq J xs G)(hp:H p=none)(Pv:Nat->List V->Hp->Prop)
  (h0:∀ H',Same H H'->H' p=some (.lst [])->Pv 0 [] H') (hG:∀ i acc H,Pv i acc H->G H)
  (hs:∀ i x acc H,xs[i]? = some x->i<xs.length->acc.length<=i->H p=some (.lst acc)->Pv i acc H->g x (List.replicate k none++Pp σ js) H fun σ2 H2=>tt σ2 H2 λb H3=>if b=true then te σ2 H3 λy H4=>∃ acc,H4 p=some (.lst acc)/\acc.length<sizeLine/\CN p xs.length Pv i (upd H4 p (.lst (acc++[y]))) else CN p xs.length Pv i H3)
  (hd:∀ acc H,H p=some (.lst acc)->acc.length<=xs.length->Pv xs.length acc H->Q (.ref p) H) :
  ∃ W:Nat->Nat->Hp->Prop,(∃ m,W 0 m (upd H p (.lst [])))/\∀ i m H,W i m H ->
   (J.stop i H/\Q (.ref p) H)\/(J.go i H/\∃ N:Hp->Prop,(∀ H',N H'->∃ m',m'<m/\W (i+1) m' H') /\
    ∀ x H',J.yld i H x H'->g x (List.replicate k none++Pp σ js) H' fun σ2 H2=>tt σ2 H2 λb H3=>
     if b=true then te σ2 H3 λy H4=>∃ acc,H4 p=some (.lst acc)/\acc.length<sizeLine/\N (upd H4 p (.lst (acc++[y]))) else N H3):=by
 refine⟨λi m H=>m=xs.length-i/\i<=xs.length/\∃ acc,H p=some (.lst acc)/\acc.length<=i/\Pv i acc H,⟨xs.length,by simp,Nat.zero_le _,[],A9,Nat.le_refl _,h0 _ (Same.upd hp) A9⟩,?_⟩;rintro i m H ⟨rfl,hi,acc,hacc,hl,q⟩;obtain⟨w1,w2,w3⟩:=hw i H (hG i acc H q)
 by_cases hlt:i<xs.length
 . refine .inr ⟨w1 hlt,CN p xs.length Pv i,λH' ⟨h1,h2⟩=>⟨xs.length-(i+1),by omega,rfl,h1,h2⟩,λx H' y=>?_⟩;obtain⟨e,hx⟩:=w3 x H' hlt y;subst e;exact hs i x acc _ hx hlt hl hacc q
 have e:i=xs.length:=by omega
 subst e;exact .inl ⟨w2 (A07 _),hd acc H hacc hl q⟩
def aD7 (p:Addr)(N:Hp->Prop):VK:=λy H4=>∃ acc,H4 p=some (.lst acc)/\acc.length<sizeLine/\N (upd H4 p (.lst (acc++[y])))
theorem Lm {J:It}{xs:List V}{G:Hp->Prop}{g:TG}{tt:TT}{te:TE}{σ:St}{H:Hp}{Q:VK}{k:Nat}{js:List Nat}(hw:Gq J xs G)(Pv:Addr->Nat->List V->Hp->Prop)
  (h0:∀ p H',H p=none->Same H H'->H' p=some (.lst [])->Pv p 0 [] H') (hG:∀ p i acc H,Pv p i acc H->G H)
  (hs:∀ p i x acc H1,H p=none->xs[i]? = some x->i<xs.length->acc.length<=i->H1 p=some (.lst acc)->Pv p i acc H1->g x (List.replicate k none++Pp σ js) H1 fun σ2 H2=>tt σ2 H2 λb H3=>if b=true then te σ2 H3 (aD7 p (CN p xs.length (Pv p) i)) else CN p xs.length (Pv p) i H3)
  (hd:∀ p acc H1,H p=none->H1 p=some (.lst acc)->acc.length<=xs.length->Pv p xs.length acc H1->Q (.ref p) H1):Ov k js g tt te σ J H Q:=λp hp=>
 Yx hw hp (Pv p) (λH' e h=>h0 p H' hp e h) (hG p) (λi x acc H1 h1 h2 h3 h4 h5=>hs p i x acc H1 hp h1 h2 h3 h4 h5) λacc H1 h1 h2 h3=>hd p acc H1 hp h1 h2 h3
theorem Pw {p:Addr}{n:Nat}{Pv:Nat->List V->Hp->Prop}{i:Nat}{H:Hp}{acc:List V}{y:V}(hn:n<=1000000)(hi:i<n)(hl:acc.length<=i)(e:H p=some (.lst acc))(k:∀ H',ExtBut p H H'->H' p=some (.lst (acc++[y]))->Pv (i+1) (acc++[y]) H') :
  aD7 p (CN p n Pv i) y H:=aw8 hn hi hl e k
theorem Zh {J:It}{xs:List V}{G:Hp->Prop}{g:TG}{tt:TT}{te:TE}{σ:St}{H:Hp}{Q:VK}{k:Nat}{js:List Nat}(hw:Gq J xs G)(t:V->Bool)(f:V->V)(hz:xs.length<=1000000)(hG:∀ H',Same H H'->G H')
  (hs:∀(i:Nat) x H1 (R:VK) (R':Hp->Prop),xs[i]? = some x->Same H H1->(t x=true->R (f x) H1)->(t x=false->R' H1)->g x (List.replicate k none++Pp σ js) H1 fun σ2 H2=>tt σ2 H2 λb H3=>if b=true then te σ2 H3 R else R' H3)
  (hd:∀ p H',H p=none->Same H H'->H' p=some (.lst ((xs.filter t).map f))->Q (.ref p) H'):Ov k js g tt te σ J H Q:=by
 refine Lm hw (λp i acc H1=>Same H H1/\acc=((xs.take i).filter t).map f) (λp H' hp e h=>⟨e,by simp⟩) (λp i acc H1 h=>hG H1 h.1) (λp i x acc H1 hp hx hi hl ha ⟨e,hacc⟩=>?_) λp acc H1 hp ha hl ⟨e,hacc⟩=>?_
 . have ht:xs.take (i+1)=xs.take i++[x]:=by rw[A0S,hx];rfl
   refine hs i x H1 _ _ hx e (λh=>?_) λh=>?_
   . refine Pw hz hi hl ha λH' e' h'=>⟨λb o hb=>e' b o (ne_of_none hb hp) (e b o hb),?_⟩;rw[ht,A39,A16,hacc];simp[h]
   refine Zc hi hl ha ⟨e,?_⟩;rw[ht,A39,A16,hacc];simp[h]
 refine hd p H1 hp e ?_;rw[ha,hacc,A11]
theorem ax2 {z:Str}{i:Nat}{v:V}(h:(z.cps.toList.map λc=>V.str ⟨#[c]⟩)[i]? = some v):∃ c,v = .str ⟨#[c]⟩/\c∈z.cps.toList:=by
 rw[A08] at h
 cases e:z.cps.toList[i]? with
 |none=>rw[e] at h;cases h
 |some c=>rw[e] at h;cases h;exact⟨c,rfl,A04 e⟩
theorem Dq {α:Type}(xs:List α):xs.filter (λ_=>true)=xs:=by simp
theorem Mj {J:It}{xs:List V}{G:Hp->Prop}{g:TG}{te:TE}{σ:St}{H:Hp}{Q:VK}{k:Nat}{js:List Nat}(hw:Gq J xs G)(f:V->V)(hz:xs.length<=1000000)(hG:∀ H',Same H H'->G H')
  (hs:∀(i:Nat) x H1 (R:VK),xs[i]? = some x->Same H H1->R (f x) H1->g x (List.replicate k none++Pp σ js) H1 fun σ2 H2=>te σ2 H2 R)
  (hd:∀ p H',H p=none->Same H H'->H' p=some (.lst (xs.map f))->Q (.ref p) H'):Ov k js g ag2 te σ J H Q:=
 Zh hw (λ_=>true) f hz hG (λi x H1 R R' hx e h _=>by
  have:=hs i x H1 R hx e (h rfl);show g x _ H1 fun σ2 H2=>if true=true then te σ2 H2 R else R' H2
  simpa using this) λp H' hp e h=>hd p H' hp e (by rw[h,Dq])
theorem Iw {J:It}{xs:List V}{G:Hp->Prop}{g:TG}{tb:TS}{D:Ends}{σ:St}{H:Hp}(hw:Gq J xs G)(Pv:Nat->St->Hp->Prop)(h0:Pv 0 σ H)(hG:∀ i σ H,Pv i σ H->G H)
  (hs:∀ i x σ H,xs[i]? = some x->i<xs.length->Pv i σ H->g x σ H fun σ2 H2=>tb {D with nx:=Pv (i+1),ct:=Pv (i+1),bk:=D.nx} σ2 H2) (hd:∀ σ H,Pv xs.length σ H->D.nx σ H):ak0 g tb D σ J H:=
 a97 hw Pv h0 hG (λi x σ H hx=>hs i x σ H hx (A00.mp hx).1) hd
section
variable {X:Cx}{K:W.Frag}
theorem Am (hK:X.K=K:=by ac_nf):OpR X (binaryOp .Add) (X3 K):=hK ▸ aw6
theorem C5 (hq:QA X.A)(hK:X.K=K:=by ac_nf):OpR X (compareOp .Eq) (aM1 K):=hK ▸ aC4 hq
theorem aA3 (hq:QA X.A)(hK:X.K=K:=by ac_nf):OpR X (compareOp .NotEq) (aO2 K):=hK ▸ aD6 hq
theorem Pq (hq:QA X.A)(hK:X.K=K:=by ac_nf):OpR X (compareOp .In) (Xf K false):=hK ▸ aG8 hq
theorem Gc (hq:QA X.A)(hK:X.K=K:=by ac_nf):OpR X (compareOp .NotIn) (Xf K true):=hK ▸ Zx hq
theorem A7 (hu:X.A.units+1<cLine)(hK:X.K=K:=by ac_nf):IxR X (Ui K):=hK ▸ aI6 hu
theorem a65 (hK:X.K=K:=by ac_nf):SlR X (aL3 K):=hK ▸ sl_A
theorem By (hK:X.K=K:=by ac_nf):CallR X (.builtin "len") (Tz K):=hK ▸ a87
theorem Iz (hK:X.K=K:=by ac_nf):CallR X (.builtin "isinstance") (Kc K):=hK ▸ Td
theorem Pj (hK:X.K=K:=by ac_nf):CallR X (.type "list") (Vc K):=hK ▸ X5
theorem Bd (hK:X.K=K:=by ac_nf):CallR X (.type "tuple") (Lr K):=hK ▸ Tu
theorem T1 (hc:X.calm=true)(hK:X.K=K:=by ac_nf):CallR X (.builtin "all") (av8 K):=hK ▸ Xz hc
theorem B3 {tg:Expr}(hu:X.A.units+1<cLine){l:Expr}{tl:TE}(hl:PE X l tl)(hK:X.K=K:=by ac_nf):PI X tg l (aM4 K tl):=hK ▸ az5 hu hl
theorem Yy {es:List Expr}{k:Nat}{t:TGs}{n:Nat}{pos:Pos}(hc:X.calm=true)(h:PGs X es t)(hK:X.K=K:=by ac_nf)
  (hn:(assignEach es X.env).length=n:=by ac_nf) (hst:(assignEach es X.env).findIdx? (·.1)=none:=by ac_nf):PG X (.Tuple es k pos) (aG0 K n t):=hK ▸ az6 hc h hn hst
variable {o e:Expr}{es:List Expr}{to:TE}{t:TA}{name:Str}{apos cpos:Pos}{T id:String}{r:V->List V->Hp->VK->Prop}
theorem Qg (pa:PlainAttrs T)(slot:Slot T name id)(hty:typeOf (.builtin id)=pure (.type "method_descriptor"))(hm:MtR X id r)(ho:PE X o to)(hK:X.K=K:=by ac_nf)
  (hbase:attributeBase o name X.env (eval o X.env)=eval o X.env:=by ac_nf) (hline:(apos.endLine==cpos.line)=true:=by ac_nf):PE X (.Call (.Attribute o name apos) [] [] cpos) (aP3 K T r to):=hK ▸ aK1 pa slot hty hm ho hbase hline
theorem Eh (pa:PlainAttrs T)(slot:Slot T name id)(hty:typeOf (.builtin id)=pure (.type "method_descriptor"))(hm:MtR X id r)(ho:PE X o to)(ha:PA X (e :: es) t)(hK:X.K=K:=by ac_nf)
  (hbase:attributeBase o name X.env (eval o X.env)=eval o X.env:=by ac_nf)
  (hfew:((backTo cpos (starEach (e :: es) X.env)).all (λx=>!x.1)&&(backToKw cpos (keywordEach [] X.env)).all (λx=>x.1.isSome)
   && decide ((e :: es).length+([]:List Keyword).length+(if([]:List Keyword).isEmpty then 0 else 1)<30))=true:=by ac_nf)
  (hline:(apos.endLine==cpos.line)=true:=by ac_nf) (hs:starEach (e :: es) X.env=(false,eval e X.env) :: starEach es X.env:=by ac_nf) (hplain:(backTo cpos (starEach es X.env)).any (·.1)=false:=by ac_nf) :
  PE X (.Call (.Attribute o name apos) (e :: es) [] cpos) (tBM K T r to t):=hK ▸ aN2 pa slot hty hm ho ha hbase hfew hline hs hplain
end
def Fz (H H':Hp):Prop:=∀ a xs,Rd H a (.tup xs)->Rd H' a (.tup xs)
theorem Fz.refl (H:Hp):Fz H H:=λ_ _ h=>h
theorem Fz.trans {H H1 H2:Hp}(a:Fz H H1)(b:Fz H1 H2):Fz H H2:=λc xs h=>b c xs (a c xs h)
theorem Same.fz {H H':Hp}(e:Same H H'):Fz H H':=λa xs h=>by
 rcases h with h|⟨o,h⟩
 . exact .inl (e _ _ h)
 exact .inr ⟨o,e _ _ h⟩
theorem W5 {p:Addr}{H H':Hp}(e:ExtBut p H H')(hp:∀ xs,¬ Rd H p (.tup xs)):Fz H H':=λa xs h=>by
 have n:a≠p:=λq=>hp xs (q ▸ h);rcases h with h|⟨o,h⟩
 . exact .inl (e _ _ n h)
 exact .inr ⟨o,e _ _ n h⟩
theorem ExtBut.fzL {p:Addr}{H H':Hp}{l:List V}(e:ExtBut p H H')(hp:H p=some (.lst l)):Fz H H':=W5 e λxs h=>by
 rcases h with h|⟨o,h⟩
 . rw[hp] at h;cases h
 rw[hp] at h;cases h
theorem ExtBut.fzD {p:Addr}{H H':Hp}{l:List (Key×V)}(e:ExtBut p H H')(hp:H p=some (.dK l)):Fz H H':=W5 e λxs h=>by
 rcases h with h|⟨o,h⟩
 . rw[hp] at h;cases h
 rw[hp] at h;cases h
theorem Fz.seq {K:W.Frag}{H H':Hp}(e:Fz H H'){a:Addr}{xs:List V}(h:SqT K H a xs):SqT K H' a xs:=by
 rcases h with h|h
 . exact .inl (e _ _ h)
 exact .inr h
mutual
def frz:PyData->Bool
 |.tuple ds=>T3 ds
 |.list _=>false
 |.dict _=>false
 |_=>true
def T3:List PyData->Bool
 | []=>true
 |d :: ds=>frz d&&T3 ds
end
mutual
theorem Is.fz {K:W.Frag}{H H':Hp}(e:Fz H H'):∀(d:PyData) (v:V),frz d=true->Is K H d v->Is K H' d v
 |.none,_,_,h=>by simp only[Is] at h ⊢;exact h
 |.bool _,_,_,h=>by simp only[Is] at h ⊢;exact h
 |.int _,_,_,h=>by simp only[Is] at h ⊢;exact h
 |.str _,_,_,h=>by simp only[Is] at h ⊢;exact h
 |.list ds,v,hf,_=>by simp[frz] at hf
 |.tuple ds,v,hf,h=>by simp only[Is] at h ⊢;obtain⟨a,xs,e1,e2,e3⟩:=h;exact⟨a,xs,e1,e.seq e2,IsL.fz e ds xs (by simpa only[frz] using hf) e3⟩
 |.dict _,_,_,h=>by simp only[Is] at h
theorem IsL.fz {K:W.Frag}{H H':Hp}(e:Fz H H'):∀(ds:List PyData) (vs:List V),T3 ds=true->IsL K H ds vs->IsL K H' ds vs
 | [],_,_,h=>by simp only[IsL] at h ⊢;exact h
 |d :: ds,vs,hf,h=>by simp only[IsL] at h ⊢;simp only[T3,Bool.and_eq_true] at hf;obtain⟨v,r,e1,e2,e3⟩:=h;exact⟨v,r,e1,Is.fz e d v hf.1 e2,IsL.fz e ds r hf.2 e3⟩
end
section
variable {K:W.Frag}{H H':Hp}
theorem IsL.length:∀ {ds:List PyData} {vs:List V},IsL K H ds vs->ds.length=vs.length
 | [],_,h=>by simp only[IsL] at h;subst h;rfl
 |d :: ds,vs,h=>by simp only[IsL] at h;obtain⟨v,r,rfl,_,e3⟩:=h;simp only[List.length_cons,IsL.length e3]
theorem IsL.get:∀ {ds:List PyData} {vs:List V} {i:Nat} {x:V},IsL K H ds vs->vs[i]? = some x->∃ d,ds[i]? = some d/\Is K H d x
 | [],_,_,_,h,e=>by simp only[IsL] at h;subst h;simp at e
 |d :: ds,vs,i,x,h,e=>by
   simp only[IsL] at h;obtain⟨v,r,rfl,e2,e3⟩:=h
   cases i with
   |zero=>simp at e;subst e;exact⟨d,rfl,e2⟩
   |succ i=>obtain⟨d',h1,h2⟩:=IsL.get (i:=i) e3 (by simpa using e);exact⟨d',by simpa using h1,h2⟩
theorem IsL.at:∀ {ds:List PyData} {vs:List V} {i:Nat} {d:PyData},IsL K H ds vs->ds[i]? = some d->∃ x,vs[i]? = some x/\Is K H d x
 | [],_,_,_,h,e=>by simp at e
 |d :: ds,vs,i,d',h,e=>by
   simp only[IsL] at h;obtain⟨v,r,rfl,e2,e3⟩:=h
   cases i with
   |zero=>simp at e;subst e;exact⟨v,rfl,e2⟩
   |succ i=>obtain⟨x,h1,h2⟩:=IsL.at (i:=i) e3 (by simpa using e);exact⟨x,by simpa using h1,h2⟩
theorem IsL.append:∀ {ds es:List PyData} {vs us:List V},IsL K H ds vs->IsL K H es us->IsL K H (ds++es) (vs++us)
 | [],_,_,_,h,g=>by simp only[IsL] at h;subst h;exact g
 |d :: ds,es,vs,us,h,g=>by simp only[IsL] at h;obtain⟨v,r,rfl,e2,e3⟩:=h;simp only[List.cons_append,IsL];exact⟨v,_,rfl,e2,IsL.append e3 g⟩
theorem IsL.one {d:PyData}{v:V}(h:Is K H d v):IsL K H [d] [v]:=by simp only[IsL];exact⟨v,[],rfl,h,rfl⟩
theorem IsL.nil:IsL K H [] []:=by simp only[IsL]
theorem IsL.cons {d:PyData}{v:V}{ds:List PyData}{vs:List V}(h:Is K H d v)(g:IsL K H ds vs):IsL K H (d :: ds) (v :: vs):=by simp only[IsL];exact⟨v,vs,rfl,h,g⟩
theorem IsL.str_eq:∀ {ns:List Str} {vs:List V},IsL K H (ns.map PyData.str) vs->vs=ns.map V.str
 | [],vs,h=>by simp only[List.map_nil,IsL] at h;exact h
 |n :: ns,vs,h=>by simp only[List.map_cons,IsL,Is] at h;obtain⟨v,r,rfl,rfl,e3⟩:=h;rw[IsL.str_eq e3];rfl
theorem Is.tup {ds:List PyData}{v:V}(h:Is K H (.tuple ds) v):∃ a xs,v = .ref a/\SqT K H a xs/\IsL K H ds xs:=by simpa only[Is] using h
theorem Is.of_tup {ds:List PyData}{a:Addr}{xs:List V}(h:SqT K H a xs)(g:IsL K H ds xs):Is K H (.tuple ds) (.ref a):=by simp only[Is];exact⟨a,xs,rfl,h,g⟩
theorem Is.str {z:Str}{v:V}(h:Is K H (.str z) v):v = .str z:=by simpa only[Is] using h
theorem Dp {z:Str}:Is K H (.str z) (.str z):=by simp only[Is]
theorem Gv {z:Int}:Is K H (.int z) (.int z):=by simp only[Is]
theorem af6 {z:Bool}:Is K H (.bool z) (.bl z):=by simp only[Is]
theorem Vi:Is K H .none .non:=by simp only[Is]
end
def nmD (ns:List Str):PyData:=.tuple (ns.map PyData.str)
def prD (p:Str×Str):PyData:=.tuple [.str p.1,.str p.2]
def psD (ps:List (Str×Str)):PyData:=.tuple (ps.map prD)
def hfD (ns:List Str)(ps:List (Str×Str)):PyData:=.tuple [nmD ns,psD ps]
theorem Mz:∀ ns:List Str,T3 (ns.map PyData.str)=true
 | []=>rfl
 |n :: ns=>by simp only[List.map_cons,T3,frz,Mz ns,Bool.and_self]
theorem ah5 (ns:List Str):frz (nmD ns)=true:=by simp only[nmD,frz,Mz]
theorem Ng (p:Str×Str):frz (prD p)=true:=by simp[prD,frz,T3]
theorem Ko:∀ ps:List (Str×Str),T3 (ps.map prD)=true
 | []=>rfl
 |n :: ns=>by simp only[List.map_cons,T3,Ng,Ko ns,Bool.and_self]
theorem al7 (ps:List (Str×Str)):frz (psD ps)=true:=by simp only[psD,frz,Ko]
theorem aA2 (ns:List Str)(ps:List (Str×Str)):frz (hfD ns ps)=true:=by simp only[hfD,frz,T3,ah5,al7,Bool.and_self]
section
variable {K:W.Frag}{H H':Hp}
theorem Is.nm {ns:List Str}{v:V}(h:Is K H (nmD ns) v):∃ a,v = .ref a/\SqT K H a (ns.map V.str):=by obtain⟨a,xs,rfl,h1,h2⟩:=Is.tup h;exact⟨a,rfl,by rw[<- IsL.str_eq h2];exact h1⟩
theorem Xl {ns:List Str}{a:Addr}(h:SqT K H a (ns.map V.str)):Is K H (nmD ns) (.ref a):=Is.of_tup h (Oe ns)
theorem Is.pr {p:Str×Str}{v:V}(h:Is K H (prD p) v):∃ a,v = .ref a/\SqT K H a [.str p.1,.str p.2]:=by obtain⟨a,xs,rfl,h1,h2⟩:=Is.tup h;simp only[IsL,Is] at h2;obtain⟨_,_,rfl,rfl,_,_,rfl,rfl,rfl⟩:=h2;exact⟨a,rfl,h1⟩
theorem aP4 {x y:Str}{a:Addr}(h:SqT K H a [.str x,.str y]):Is K H (prD (x,y)) (.ref a):=Is.of_tup h (.cons Dp (.one Dp))
theorem Is.hf {ns:List Str}{ps:List (Str×Str)}{v:V}(h:Is K H (hfD ns ps) v):∃ a x y,v = .ref a/\SqT K H a [x,y]/\Is K H (nmD ns) x/\Is K H (psD ps) y:=by obtain⟨a,xs,rfl,h1,h2⟩:=Is.tup h;simp only[IsL] at h2;obtain⟨x,_,rfl,hx,y,_,rfl,hy,rfl⟩:=h2;exact⟨a,x,y,rfl,h1,hx,hy⟩
theorem aL0 {ns:List Str}{ps:List (Str×Str)}{a:Addr}{x y:V}(h:SqT K H a [x,y])(hx:Is K H (nmD ns) x)(hy:Is K H (psD ps) y):Is K H (hfD ns ps) (.ref a):=Is.of_tup h (.cons hx (.one hy))
theorem Is.nm_fz {ns:List Str}{v:V}(h:Is K H (nmD ns) v)(e:Fz H H'):Is K H' (nmD ns) v:=Is.fz e _ _ (ah5 ns) h
theorem Is.pr_fz {p:Str×Str}{v:V}(h:Is K H (prD p) v)(e:Fz H H'):Is K H' (prD p) v:=Is.fz e _ _ (Ng p) h
theorem Is.ps_fz {ps:List (Str×Str)}{v:V}(h:Is K H (psD ps) v)(e:Fz H H'):Is K H' (psD ps) v:=Is.fz e _ _ (al7 ps) h
theorem Is.hf_fz {ns:List Str}{ps:List (Str×Str)}{v:V}(h:Is K H (hfD ns ps) v)(e:Fz H H'):Is K H' (hfD ns ps) v:=Is.fz e _ _ (aA2 ns ps) h
variable {σ:St}{Q:VK}{x v:V}{i:Int}
theorem L8 {a:Addr}{xs:List V}(h:SqT K H a xs)(e:atI xs i=some v)(k:Q v H):Ui K (.ref a) (.int i) H Q:=.inl (.inr (.inl ⟨a,xs,i,v,rfl,rfl,h,e,k⟩))
theorem Kk {ns:List Str}{ps:List (Str×Str)}(h:Is K H (hfD ns ps) x)(k:∀ v,Is K H (nmD ns) v->Q v H):Ui K x (.int 0) H Q:=by obtain⟨a,u,w,rfl,h1,h2,h3⟩:=h.hf;exact L8 h1 rfl (k u h2)
theorem am3 {ns:List Str}{ps:List (Str×Str)}(h:Is K H (hfD ns ps) x)(k:∀ v,Is K H (psD ps) v->Q v H):Ui K x (.int 1) H Q:=by obtain⟨a,u,w,rfl,h1,h2,h3⟩:=h.hf;exact L8 h1 rfl (k w h3)
theorem Vg {p:Str×Str}(h:Is K H (prD p) x)(k:Q (.str p.1) H):Ui K x (.int 0) H Q:=by obtain⟨a,rfl,h1⟩:=h.pr;exact L8 h1 rfl k
theorem Pf {p:Str×Str}(h:Is K H (prD p) x)(k:Q (.str p.2) H):Ui K x (.int 1) H Q:=by obtain⟨a,rfl,h1⟩:=h.pr;exact L8 h1 rfl k
theorem aE3 {ds:List PyData}(h:Is K H (.tuple ds) x)(k:Q (.int ds.length) H):Tz K [x] H Q:=by obtain⟨a,xs,rfl,h1,h2⟩:=h.tup;rw[IsL.length h2] at k;exact .inl ⟨.ref a,_,rfl,.inr ⟨xs,h1,rfl⟩,k⟩
theorem aF4 {ns:List Str}(h:Is K H (nmD ns) x)(k:Q (.int ns.length) H):Tz K [x] H Q:=aE3 h (by rw[A02];exact k)
theorem My (ns:List Str):(ns.map V.str).all Qv=true:=by rw[A1B];intro v h;obtain ⟨n,_,rfl⟩:=A0E.mp h;rfl
theorem Mh (z:Str):∀ ns:List Str,inV (.str z) (ns.map V.str)=decide (z∈ns)
 | []=>rfl
 |n :: ns=>by
   have ih:=Mh z ns;unfold inV at ih ⊢;rw[A0H,A21,ih]
   have e:eqV (V.str n) (V.str z)=decide (n=z):=by
    show(n==z)=_
    by_cases h:n=z<;>simp[h]
   rw[e]
   by_cases h:n=z
   . subst h;simp
   have h':¬ z=n:=λq=>h q.symm
   by_cases g:z∈ns<;>simp[h,h',g]
theorem aC7 {ns:List Str}{z:Str}{a:Addr}(h:SqL K H a (ns.map V.str))(k:Q (.bl (decide (z∈ns))) H):Xf K false (.str z) (.ref a) H Q:=
 .inl ⟨a,_,rfl,.inl h,rfl,My ns,by rw[Mh];exact k⟩
theorem ay7 {ns:List Str}{z:Str}(h:Is K H (nmD ns) x)(k:Q (.bl (!decide (z∈ns))) H):Xf K true (.str z) x H Q:=by obtain⟨a,rfl,h1⟩:=h.nm;exact .inl ⟨a,_,rfl,.inr h1,rfl,My ns,by rw[Mh];exact k⟩
theorem aw2 {ns:List Str}{z:Str}{a:Addr}(h:SqL K H a (ns.map V.str))(k:Q (.bl (!decide (z∈ns))) H):Xf K true (.str z) (.ref a) H Q:=
 .inl ⟨a,_,rfl,.inl h,rfl,My ns,by rw[Mh];exact k⟩
theorem aj1 {ds:List PyData}{g:TG}{tb:TS}{D:Ends}(h:Is K H (.tuple ds) x)(hf:T3 ds=true)(Pv:Nat->St->Hp->Prop)(h0:Pv 0 σ H)(hG:∀ i σ' H',Pv i σ' H'->Fz H H')
  (hs:∀ i d v σ' H',ds[i]? = some d->Is K H' d v->Pv i σ' H'->g v σ' H' fun σ2 H2=>tb {D with nx:=Pv (i+1),ct:=Pv (i+1),bk:=D.nx} σ2 H2) (hd:∀ σ' H',Pv ds.length σ' H'->D.nx σ' H') :
  Ge K x H λJ H1=>ak0 g tb D σ J H1:=by
 obtain⟨a,xs,rfl,h1,h2⟩:=h.tup;refine Nf h1 (Iw Er Pv h0 (λi σ' H' p=>(hG i σ' H' p).seq h1) (λi v σ' H' hx hi p=>?_) fun σ' H' p=>hd σ' H' (by rw[IsL.length h2];exact p));obtain⟨d,e1,e2⟩:=IsL.get (IsL.fz (hG i σ' H' p) ds xs hf h2) hx;exact hs i d v σ' H' e1 e2 p
theorem Pk {ns:List Str}{g:TG}{tb:TS}{D:Ends}(h:Is K H (nmD ns) x)(Pv:Nat->St->Hp->Prop)(h0:Pv 0 σ H)(hG:∀ i σ' H',Pv i σ' H'->Fz H H')
  (hs:∀ i z σ' H',ns[i]? = some z->Pv i σ' H'->g (.str z) σ' H' fun σ2 H2=>tb {D with nx:=Pv (i+1),ct:=Pv (i+1),bk:=D.nx} σ2 H2) (hd:∀ σ' H',Pv ns.length σ' H'->D.nx σ' H') :
  Ge K x H λJ H1=>ak0 g tb D σ J H1:=
 aj1 h (Mz ns) Pv h0 hG (λi d v σ' H' e h p=>by
  rw[A08] at e
  cases hn:ns[i]? with
  |none=>rw[hn] at e;cases e
  |some z=>
    rw[hn] at e
    cases e;rw[h.str];exact hs i z σ' H' hn p) fun σ' H' p=>hd σ' H' (by rw[A02] at p;exact p)
theorem aH8 {ps:List (Str×Str)}{g:TG}{tb:TS}{D:Ends}(h:Is K H (psD ps) x)(Pv:Nat->St->Hp->Prop)(h0:Pv 0 σ H)(hG:∀ i σ' H',Pv i σ' H'->Fz H H')
  (hs:∀ i p v σ' H',ps[i]? = some p->Is K H' (prD p) v->Pv i σ' H'->g v σ' H' fun σ2 H2=>tb {D with nx:=Pv (i+1),ct:=Pv (i+1),bk:=D.nx} σ2 H2) (hd:∀ σ' H',Pv ps.length σ' H'->D.nx σ' H') :
  Ge K x H λJ H1=>ak0 g tb D σ J H1:=
 aj1 h (Ko ps) Pv h0 hG (λi d v σ' H' e h p=>by
  rw[A08] at e
  cases hn:ps[i]? with
  |none=>rw[hn] at e;cases e
  |some z=>
    rw[hn] at e
    cases e;exact hs i z v σ' H' hn h p) fun σ' H' p=>hd σ' H' (by rw[A02] at p;exact p)
theorem Jf {α:Type}(f:α->PyData)(hf:∀ a,frz (f a)=true):∀ xs:List α,T3 (xs.map f)=true
 | []=>rfl
 |x :: xs=>by simp only[List.map_cons,T3,hf,Jf f hf xs,Bool.and_self]
theorem Hx {α:Type}{J:It}{xs:List V}{G:Hp->Prop}{g:TG}{tt:TT}{te:TE}{Q:VK}{k:Nat}{js:List Nat}(hw:Gq J xs G)(as:List α)(hl:as.length=xs.length)(t:α->Bool)(f:α->PyData)(hf:∀ a,frz (f a)=true)(hz:xs.length<=1000000)(hG:∀ H',Same H H'->G H')
  (hs:∀(i:Nat) a v H1 (R:VK) (R':Hp->Prop),as[i]? = some a->xs[i]? = some v->Same H H1->(t a=true->∀ y H2,Same H1 H2->Is K H2 (f a) y->R y H2)->(t a=false->∀ H2,Same H1 H2->R' H2) ->
   g v (List.replicate k none++Pp σ js) H1 fun σ2 H2=>tt σ2 H2 λb H3=>if b=true then te σ2 H3 R else R' H3)
  (hd:∀ p ys H',H p=none->Same H H'->H' p=some (.lst ys)->IsL K H' ((as.filter t).map f) ys->Q (.ref p) H'):Ov k js g tt te σ J H Q:=by
 refine Lm hw (λp i acc H1=>Same H H1/\IsL K H1 (((as.take i).filter t).map f) acc) (λp H' hp e h=>⟨e,by simp only[List.take_zero,List.filter_nil,List.map_nil];exact .nil⟩) (λp i acc H1 h=>hG H1 h.1) (λp i x acc H1 hp hx hi hl1 ha ⟨e,hacc⟩=>?_) λp acc H1 hp ha hl1 ⟨e,hacc⟩=>?_
 . have hi':i<as.length:=by omega
   obtain⟨a,hai⟩:∃ a,as[i]? = some a:=⟨as[i],A05 hi'⟩;have ht:as.take (i+1)=as.take i++[a]:=by rw[A0S,hai];rfl
   refine hs i a x H1 _ _ hai hx e (λh y H2 e2 hy=>?_) λh H2 e2=>?_
   . refine Pw hz hi hl1 (e2 _ _ ha) λH' e' h'=>⟨λb o hb=>e' b o (ne_of_none hb hp) (e2 _ _ (e b o hb)),?_⟩;rw[ht,A39,A16];have fz:=e'.fzL (e2 _ _ ha);refine IsL.append (IsL.fz (e2.fz.trans fz) _ _ (Jf f hf _) hacc) ?_;simp only[List.filter_cons,h,if_true,List.filter_nil,List.map_cons,List.map_nil];exact .one (Is.fz fz _ _ (hf a) hy)
   refine Zc hi hl1 (e2 _ _ ha) ⟨e.trans e2,?_⟩;rw[ht,A39,A16];simp only[List.filter_cons,h,Bool.false_eq_true,if_false,List.filter_nil,List.map_nil,List.append_nil];exact IsL.mono e2 _ _ hacc
 refine hd p acc H1 hp e ha ?_;rw[<- hl,A11] at hacc;exact hacc
end
section
variable {X:Cx}{K:W.Frag}
def aC8:PyData->Bool
 |.list _=>true
 |.tuple _=>true
 |_=>false
mutual
theorem Is.noDict {H:Hp}:∀(d:PyData) (v:V),Is K H d v->d.hasDict=false
 |.none,_,h=>by simp only[PyData.hasDict]
 |.bool _,_,h=>by simp only[PyData.hasDict]
 |.int _,_,h=>by simp only[PyData.hasDict]
 |.str _,_,h=>by simp only[PyData.hasDict]
 |.list ds,v,h=>by simp only[Is] at h;obtain⟨a,xs,e1,e2,e3⟩:=h;simp only[PyData.hasDict];exact IsL.noDict ds xs e3
 |.tuple ds,v,h=>by simp only[Is] at h;obtain⟨a,xs,e1,e2,e3⟩:=h;simp only[PyData.hasDict];exact IsL.noDict ds xs e3
 |.dict _,_,h=>by simp only[Is] at h
theorem IsL.noDict {H:Hp}:∀(ds:List PyData) (vs:List V),IsL K H ds vs->PyData.hasDictAll ds=false
 | [],_,h=>by simp only[PyData.hasDictAll]
 |d :: ds,vs,h=>by simp only[IsL] at h;obtain⟨v,r,e1,e2,e3⟩:=h;simp only[PyData.hasDictAll,Is.noDict d v e2,IsL.noDict ds r e3,Bool.or_self]
end
structure Sh (d:PyData):Prop where
 dp:aC8 d=true
 sh:d.showable=true
 fits:d.shown.length<=sizeLine
 deep:d.depth<=100
theorem Po (hq:QA X.A):CallR X (.builtin "repr") (λxs H Q=>∃ x d,xs=[x]/\Is X.K H d x/\Sh d/\Q (.str d.shown) H):=by
 intro pins s σ H xs us Q I rv h;obtain⟨x,d,rfl,i,S,q⟩:=h;obtain⟨u,rfl,ru⟩:=rv.one;obtain⟨as,ra⟩:=Is.reads I d x u i ru
 have href:∃ a,u = .ref a:=by
  have hd:=S.dp
  cases d with
  |list ds=>simp only[Is] at i;obtain⟨a,_,rfl,_⟩:=i;exact⟨a,ru⟩
  |tuple ds=>simp only[Is] at i;obtain⟨a,_,rfl,_⟩:=i;exact⟨a,ru⟩
  |_=>cases hd
 obtain⟨a,rfl⟩:=href;refine repr_of_reads' ra S.sh (λhx=>absurd hx (by rw[Is.noDict d x i];exact A0F)) hq.gd (by have:=hq.un;have:=S.deep;omega) (λ_ _ e=>e) (λh' t tk hk=>?_) S.fits;exact⟨.str d.shown,H,I.kept hk,⟨t,rfl⟩,q⟩
def Vj (z:Str)(n:Nat):Str:=⟨(List.replicate n z.cps).foldl (· ++ ·) #[]⟩
def aG1:R2:=λx y H Q=>∃ z n,x = .str z/\y = .int n/\2<=n/\n<=1000/\z.length<=1000/\0<z.length/\Q (.str (Vj z n.toNat)) H
theorem ar2:OpR X (binaryOp .Mult) aG1:=by
 intro pins s σ H x y v u Q I rx ry h;obtain⟨z,n,rfl,rfl,h1,h2,h3,h4,q⟩:=h;obtain⟨t,rfl⟩:=rx;obtain⟨t2,rfl⟩:=ry;have a1:¬ n<1:=by omega
 have a2:(n==1||z.length==0)=false:=by
  have e1:(n==1)=false:=by simp;omega
  have e2:(z.length==0)=false:=by simp;omega
  rw[e1,e2];rfl
 have hz:z.length*n.toNat<=1000000:=by have:z.length*n.toNat<=1000*1000:=Nat.mul_le_mul h3 nofun;omega
 have hlen:(Vj z n.toNat).length<=sizeLine:=by
  have e:∀(m:Nat) (a:Array Nat),((List.replicate m z.cps).foldl (· ++ ·) a).size=a.size+m*z.cps.size:=by
   intro m
   induction m with
   |zero=>intro a;simp
   |succ m ih=>intro a;rw[A2K,A4M,ih,Array.size_append,Nat.succ_mul];omega
  show((List.replicate n.toNat z.cps).foldl (· ++ ·) #[]).size<=sizeLine;rw[e];have e2:z.cps.size=z.length:=rfl;rw[e2,A1F,A4O];simp;omega
 refine PySem.P.mul_str (by
   have b1:¬ n < -(2 ^ 63:Int):=by omega
   have b2:¬ n>=2 ^ 63:=by omega
   rw[A0Q b1,A0Q b2];rfl) (λ_ _=>?_) (λ_ _=>?_) ?_
 . have:(2 ^ 63-1:Int) / n>=1000:=by
    refine Int.le_ediv_of_mul_le nofun ?_;have:1000*n<=1000*1000:=by omega
    omega
   omega
 . have hz2:z.length*n.toNat<=sizeLine:=A8 hz;rw[A1F] at hz2;unfold Builtin.Str.tooLong;simp[sizeLine_eq];omega
 rw[A0J a1,a2,A0J A0F];exact⟨hlen,.str _,H,I.kept λ_ _ e=>e,⟨_,rfl⟩,q⟩
def aa2:R2:=λx y H Q=>ag1 x y H Q\/aG1 x y H Q
theorem Fm:OpR X (binaryOp .Mult) aa2:=op_mulA.or ar2
theorem i_mulBI {i j:Int}{H:Hp}{Q:VK}(h:CMul i j)(k:Q (.int (i*j)) H):aa2 (.int i) (.int j) H Q:=.inl (aL2 h k)
theorem an0 {z:Str}{n:Int}{H:Hp}{Q:VK}(h:2<=n/\n<=1000/\z.length<=1000/\0<z.length)(k:Q (.str (Vj z n.toNat)) H):aa2 (.str z) (.int n) H Q:=.inr ⟨z,n,rfl,rfl,h.1,h.2.1,h.2.2.1,h.2.2.2,k⟩
theorem an4 {i:Int}{H:Hp}{Q:VK}{a:Addr}{xs:List V}(h1:H a=some (.lst xs))(h2:-(2 ^ 63)<=i/\i<2 ^ 63)(h3:xs.length*i.toNat<=sizeLine)(k:∀ p H',H p=none->Same H H'->H' p=some (.lst (List.replicate i.toNat xs).flatten)->Q (.ref p) H'):aa2 (.ref a) (.int i) H Q:=.inl (aF3 h1 h2 h3 k)
def rIs (neg:Bool):R2:=λx y H Q=>(y = .non/\Q (.bl (if neg then !decide (x = .non) else decide (x = .non))) H)\/∃ a b,x = .bl a/\y = .bl b/\Q (.bl (if neg then !(a==b) else a==b)) H
theorem ai4:OpR X (compareOp .Is) (rIs false):=by
 intro pins s σ H x y v u Q I rx ry h;rcases h with ⟨rfl,q⟩|⟨a,b,rfl,rfl,q⟩
 . exact aG3 pins s σ H x .non v u Q I rx ry ⟨rfl,q⟩
 cases rx
 cases ry;refine wpAny_is_plain rfl ?_;refine⟨.bl _,H,I,?_,q⟩;show Value.bool (Value.bool a==Value.bool b)=Value.bool (a==b)
 cases a<;>cases b<;>rfl
theorem i_isN {x:V}{H:Hp}{Q:VK}(k:Q (.bl (decide (x = .non))) H):rIs false x .non H Q:=.inl ⟨rfl,k⟩
section
variable {D:Ends}{σ:St}{H:Hp}{t u:TS}{te td ty tv:TE}{g:TG}
theorem Tv (M:St->Hp->Prop)(h1:∀ N:St->Hp->Prop,(∀ σ' H',M σ' H'->N σ' H')->t {D with nx:=N} σ H)(h2:∀ σ' H',M σ' H'->u D σ' H'):aL4 t u D σ H:=h1 (u D) h2
end
theorem au3 {a:Addr}{xs:List V}{H:Hp}{Q:VK}(h:SqL K H a xs\/SqT K H a xs)(k:∀ p H',H p=none->Same H H'->H' p=some (.lst xs)->Q (.ref p) H'):Vc K [.ref a] H Q:=⟨a,xs,rfl,h,λp hp=>k p _ hp (Same.upd hp) A9⟩
theorem mm {id:String}{r:V->List V->Hp->VK->Prop}(h:MtM X id r):MtR X id r:=h
theorem i_tyLm {a:Addr}{xs:List V}{H:Hp}{B:Prop}(h:H a=some (.lst xs))(k:B):tyV K "list" (.ref a) H/\B:=⟨.inl ⟨rfl,xs,SqL.of h⟩,k⟩
theorem Iy {l:Addr}{xs:List V}{y:V}{H:Hp}{Q:VK}(h:H l=some (.lst xs))(hz:xs.length<=1000000)(k:∀ H',ExtBut l H H'->H' l=some (.lst (xs++[y]))->Q .non H'):Yt (.ref l) [y] H Q:=
 ⟨l,xs,y,rfl,rfl,h,by rw[A1F];omega,k _ ExtBut.upd A9⟩
theorem ak7 {l b:Addr}{xs zs:List V}{H:Hp}{Q:VK}(h:H l=some (.lst xs))(hb:H b=some (.lst zs))(hz:xs.length+zs.length<=1000000)(k:∀ H',ExtBut l H H'->H' l=some (.lst (xs++zs))->Q .non H'):Y9 (.ref l) [.ref b] H Q:=
 ⟨l,b,xs,zs,rfl,rfl,h,hb,A8 hz,k _ ExtBut.upd A9⟩
theorem ab2 {l:Addr}{xs:List V}{y:V}{i:Int}{H:Hp}{Q:VK}(h:H l=some (.lst xs))(h0:0<=i)(h1:xs[i.toNat]? = some y)(k:∀ H',ExtBut l H H'->H' l=some (.lst (xs.eraseIdx i.toNat))->Q y H')(hz:xs.length<=1000000):am7 (.ref l) [.int i] H Q:=by
 have h2:=(A00.mp h1).1;refine⟨l,xs,i,i.toNat,y,rfl,rfl,h,by omega,by omega,?_,h1,k _ ExtBut.upd A9⟩;have e:=Rh (Dl (α:=V) h1);obtain⟨j,e1,e2,e3,_⟩:=e;rw[A54 h0] at e1;rw[e1]
 have e4:seqIndex? i xs.length=some i.toNat:=by unfold seqIndex? at e1 ⊢;simp[show ¬ i<0 by omega] at e1 ⊢;omega
 rw[<- e1,e4]
def Wq (xs:List V)(k:Int):List V:=if k=1 then xs else xs.reverse
def a57 (K:W.Frag):V->V->Hp->VK->Prop:=λx y H Q=>∃ a xs k,x = .ref a/\y = .int k/\(k=1\/k = -1)/\SqL K H a xs/\∀ p,H p=none->Q (.ref p) (upd H p (.lst (Wq xs k)))
theorem ab0 (items:Array Value):slicePick items none none (some 1)=items:=by have e:slicePick items none none (some 1)=slicePick items none none none:=rfl;rw[e,L3];simp[HT.sIx];rw[show items.size=items.toList.length by simp,List.take_length]
theorem Rx {e st:Expr}{te ts:TE}{p2 pos:Pos}(he:PE X e te)(hst:PE X st ts)(hK:X.K=K:=by ac_nf):PE X (.Subscript e (.Slice none none (some st) p2) pos) (tOp (a57 K) te ts):=by
 subst hK;intro pins s σ H Q I h;refine Subscript_ (thn (he pins s σ H _ I h) λv s1 ⟨x,H1,I1,r1,q1⟩=>?_);refine wpAny_Slice ?_;rw[evalPart_none];refine A09 (A09 ?_);rw[evalPart_some];refine thn (hst pins s1 σ H1 _ I1 q1) λu s2 ⟨y,H2,I2,r2,q2⟩=>?_;obtain⟨a,xs,k,rfl,rfl,hk,hx,q⟩:=q2
 cases r1;obtain⟨t,rfl⟩:=r2;have I4:Inv X pins σ H2 {s2 with heap:=s2.heap.push {cls:=.type "slice",data:=.fields #[.none,.none,.int k t]}}:=I2.kept (t':=s2.toks) λb ob q=>A01 _ q
 obtain⟨its,r,ht,hz⟩:=I4.list hx;have hlen:=r.length;refine tail_any (ops:=[.ref a,.ref s2.heap.objs.size]) ht.isList.typeIs slot_list_getitem.lookup ?_ ⋯;refine wpAny_getItem_list_slice ht.isList (Heap.IsSliceOf.new ..) .none .none (.int k t) (by rcases hk with rfl|rfl<;>decide) ?_ (by rw[A0U];omega)
 rcases hk with rfl|rfl
 . rw[ab0];refine⟨.ref _,_,I4.laid (t':=s2.toks) (o:=.lst (Wq xs 1)) (λb ob q=>A01 _ q) (A07 _) ?_,rfl,q _ (I4.hok.fresh (A07 _))⟩;exact⟨hz,_,0,r,A0D _ rfl⟩
 rw[W.krv_pick];refine⟨.ref _,_,I4.laid (t':=s2.toks) (o:=.lst (Wq xs (-1))) (λb ob q=>A01 _ q) (A07 _) ?_,rfl,q _ (I4.hok.fresh (A07 _))⟩;exact⟨by show xs.reverse.length<=_;rw[A3V];exact hz,_,0,by show Vals xs.reverse _;exact r.reverse,A0D _ rfl⟩
theorem aE2 {a:Addr}{xs:List V}{k:Int}{H:Hp}{Q:VK}(h:SqL K H a xs)(hk:k=1\/k = -1)(c:∀ p H',H p=none->Same H H'->H' p=some (.lst (Wq xs k))->Q (.ref p) H'):a57 K (.ref a) (.int k) H Q:=
 ⟨a,xs,k,rfl,rfl,hk,h,λp hp=>c p _ hp (Same.upd hp) A9⟩
end
def Kq (c:Nat):Bool:=decide (97<=c)&&decide (c<=122)
def Nt (x:Str):Bool:=decide (1<=x.length)&&decide (x.length<=8)&&x.cps.toList.all Kq
def Names (ns:List Str):Prop:=ns.Nodup/\∀ z∈ns,Nt z=true
def LL:Str:="abcdefghijklmnopqrstuvwxyzabcdefghijklmnopqrstuvwxyz"
theorem aB5:Vj "abcdefghijklmnopqrstuvwxyz" (2:Int).toNat=LL:=by decide +kernel
def LLn:List Nat:=LL.cps.toList
theorem az1:LL.length=52:=by decide +kernel
theorem Lj:LLn.length=52:=by decide +kernel
theorem Vp:∀ c∈LLn,Kq c=true:=by decide +kernel
def txt (l:List Nat):Str:=⟨l.toArray⟩
theorem ao1 {a b:List Nat}(h:txt a=txt b):a=b:=by have:a.toArray=b.toArray:=congrArg Str.cps h;simpa using this
theorem Yc (a b:List Nat):txt a++txt b=txt (a++b):=by show(⟨a.toArray++b.toArray⟩:Str)=⟨(a++b).toArray⟩;simp
theorem Kp {l:List Nat}(h0:1<=l.length)(h1:l.length<=8)(h2:∀ c∈l,Kq c=true):Nt (txt l)=true:=by
 unfold Nt;have e:(txt l).length=l.length:=by show l.toArray.size=_;simp
 rw[e,A0Z h0,A0Z h1];show(true&&true&&l.all Kq)=true;rw[A1B.mpr h2];rfl
def Oz (a b:Nat):List Nat:=(LLn.drop a).take (b-a)
theorem Mm {a b:Nat}(h:a<=b)(h1:b<=52):(Oz a b).length=b-a:=by unfold Oz;rw[A14,A1M,Lj];omega
theorem Jk {a b:Nat}:∀ c∈Oz a b,Kq c=true:=λc hc=>Vp c (A2Y (A2Z hc))
theorem Wd {i j:Int}(h0:0<=i)(h1:i<=j)(h2:j<=52):Txt.slice LL (some i) (some j)=txt (Oz i.toNat j.toNat):=by
 have e:=StrLaws.sliceText_plain (x:=LL) (i:=i) (j:=j) ⟨h0,h1,by rw[show LL.cps.toList.length=52 by decide +kernel];omega⟩;have e2:(j-i).toNat=j.toNat-i.toNat:=by omega
 rw[e2] at e;exact e
def Ro (i:Nat):List Nat:=(LLn.drop i).take 1
theorem aq4 {i:Int}(h0:0<=i)(h1:i<52):∃ c,atI LL.cps.toList i=some c/\(⟨#[c]⟩:Str)=txt (Ro i.toNat):=by
 have h2:i.toNat<LLn.length:=by rw[Lj];omega
 refine⟨LLn[i.toNat],?_,?_⟩
 . have:=Dl (A05 h2);rwa[A54 h0] at this
 unfold Ro;rw[List.drop_eq_getElem_cons h2];rfl
theorem Qc {i:Nat}(h:i<52):(Ro i).length=1:=by unfold Ro;rw[A14,A1M,Lj];omega
theorem Ln {i:Nat}:∀ c∈Ro i,Kq c=true:=λc hc=>Vp c (A2Y (A2Z hc))
def nm0 (s:Nat):List (List Nat):=(List.range 8).map (λk=>Oz s (s+1+k))++[Ro (s+9),Ro (s+10)]
def nm1 (s z a:Nat):List (List Nat):=(List.range 10).map λk=>Oz s (s+a)++Ro (s+5*k % 26)++Oz (s+a+1) (s+z)
def nm2 (s:Nat):List (List Nat):=(List.range 10).map λk=>Oz (s+k) (s+k+1+3*k % 8)
theorem nd0:∀ s<26,(nm0 s).Nodup:=by decide +kernel
theorem nd2:∀ s<26,(nm2 s).Nodup:=by decide +kernel
theorem nd1':∀ s<26,((List.range 10).map λk=>Ro (s+5*k % 26)).Nodup:=by decide +kernel
theorem J0 {α β:Type}{f:α->β}:∀ {l:List α},l.Nodup->(∀ a∈l,∀ b∈l,f a=f b->a=b)->(l.map f).Nodup
 | [],_,_=>by simp
 |a :: l,h,hf=>by rw[A0H,A0P];rw[A0P] at h;refine⟨λhm=>?_,J0 h.2 λx hx y hy=>hf x (A0B _ hx) y (A0B _ hy)⟩;obtain⟨b,hb,e⟩:=A0E.mp hm;have:=hf b (A0B _ hb) a A0M e;subst this;exact h.1 hb
theorem Im {α β:Type}{f:α->β}:∀ {l:List α},(l.map f).Nodup->∀ a∈l,∀ b∈l,f a=f b->a=b
 | [],_,a,ha,_,_,_=>by cases ha
 |c :: l,h,a,ha,b,hb,e=>by
   rw[A0H,A0P] at h;rcases A0C.mp ha with q|ha'
   . rcases A0C.mp hb with q'|hb'
     . rw[q,q']
     exact absurd (A0E.mpr ⟨b,hb',by rw[<- e,q]⟩) h.1
   rcases A0C.mp hb with q'|hb'
   . exact absurd (A0E.mpr ⟨a,ha',by rw[e,q']⟩) h.1
   exact Im h.2 a ha' b hb' e
theorem Mu {l:List (List Nat)}(h:l.Nodup):(l.map txt).Nodup:=J0 h λa _ b _ e=>ao1 e
theorem nd1 {s z a:Nat}(hs:s<26):(nm1 s z a).Nodup:=by refine J0 List.nodup_range λk hk j hj e=>?_;have e1:Ro (s+5*k % 26)=Ro (s+5*j % 26):=List.append_cancel_left (List.append_cancel_right e);exact Im (f:=λk=>Ro (s+5*k % 26)) (nd1' s hs) k hk j hj e1
theorem aD4 {s:Nat}(hs:s<26):Names ((nm0 s).map txt):=by
 refine⟨Mu (nd0 s hs),λz hz=>?_⟩;obtain⟨l,hl,rfl⟩:=A0E.mp hz;rcases A0G.mp hl with h|h
 . obtain⟨k,hk,rfl⟩:=A0E.mp h;have hk:=A2A.mp hk;have e:=Mm (a:=s) (b:=s+1+k) nofun nofun;exact Kp nofun nofun Jk
 simp only[List.mem_cons,List.not_mem_nil,or_false] at h;rcases h with rfl|rfl
 . have e:=Qc (i:=s+9) nofun;exact Kp nofun nofun Ln
 have e:=Qc (i:=s+10) nofun;exact Kp nofun nofun Ln
theorem aF2 {s z a:Nat}(hs:s<26)(ha:a<z)(hz:z<=8):Names ((nm1 s z a).map txt):=by
 refine⟨Mu (nd1 hs),λy hy=>?_⟩;obtain⟨l,hl,rfl⟩:=A0E.mp hy;obtain⟨k,hk,rfl⟩:=A0E.mp hl;have hm:5*k % 26<26:=Nat.mod_lt _ ∅;have e1:=Mm (a:=s) (b:=s+a) nofun nofun;have e2:=Qc (i:=s+5*k % 26) nofun;have e3:=Mm (a:=s+a+1) (b:=s+z) nofun nofun;refine Kp (by simp only[List.length_append];omega) (by simp only[List.length_append];omega) λc hc=>?_;rcases A0G.mp hc with hc|hc
 . rcases A0G.mp hc with hc|hc
   . exact Jk c hc
   exact Ln c hc
 exact Jk c hc
theorem aD2 {s:Nat}(hs:s<26):Names ((nm2 s).map txt):=by refine⟨Mu (nd2 s hs),λz hz=>?_⟩;obtain⟨l,hl,rfl⟩:=A0E.mp hz;obtain⟨k,hk,rfl⟩:=A0E.mp hl;have hk:=A2A.mp hk;have hm:3*k % 8<8:=Nat.mod_lt _ ∅;have e:=Mm (a:=s+k) (b:=s+k+1+3*k % 8) nofun nofun;exact Kp nofun nofun Jk
def nm3:List Str:=["names","ahead","name","a","ab","aheads","last","ask","row","end"]
theorem aF0:Names nm3:=⟨by decide +kernel,by decide +kernel⟩
theorem Names.perm {ns ms:List Str}(h:Names ns)(p:ms.Perm ns):Names ms:=⟨p.nodup_iff.mpr h.1,λz hz=>h.2 z (p.mem_iff.mp hz)⟩
theorem Names.sublist {ns ms:List Str}(h:Names ns)(p:ms.Sublist ns):Names ms:=⟨h.1.sublist p,λz hz=>h.2 z (p.subset hz)⟩
theorem Names.reverse {ns:List Str}(h:Names ns):Names ns.reverse:=h.perm (List.reverse_perm _)
theorem Names.turn {ns:List Str}(h:Names ns)(t n:Nat):Names ((ns.drop t++ns.take t).take n):=
 Names.sublist (ns:=ns.drop t++ns.take t) (h.perm (List.perm_append_comm.trans (by rw[List.take_append_drop]))) (A46 _ _)
theorem Rj {xs:List V}{t:Int}(h0:0<=t)(h1:t<=xs.length):Tp xs (some t) none=xs.drop t.toNat:=by
 have e:HT.sIx xs.length 0 (some t)=t.toNat:=by unfold HT.sIx;simp[show ¬ t<0 by omega];omega
 unfold Tp;rw[e];have e2:HT.sIx xs.length xs.length none=xs.length:=rfl;rw[e2];exact A4K (by rw[A1M];omega)
theorem Qo {xs:List V}{t:Int}(h0:0<=t):Tp xs none (some t)=xs.take t.toNat:=by
 have e:HT.sIx xs.length xs.length (some t)=min t.toNat xs.length:=by unfold HT.sIx;simp[show ¬ t<0 by omega]
 unfold Tp;rw[e];have e2:HT.sIx xs.length 0 none=0:=rfl;rw[e2,List.drop_zero,Nat.sub_zero,Nat.min_comm];rw[<- List.take_take];exact A4K (by rw[A14];omega)
theorem Lu {lo:Int} {n i:Nat} {x:V} (h:((List.range n).map λ(i:Nat)=>V.int (lo+(i:Int)))[i]? = some x):x = .int (lo+(i:Int))/\i<n:=by
 rw[A08] at h
 cases e:(List.range n)[i]? with
 |none=>rw[e] at h;cases h
 |some j=>
   rw[e] at h
   cases h;have e1:=A00.mp e;obtain⟨h1,h2⟩:=e1;rw[A1R] at h1;rw[List.getElem_range] at h2;subst h2;exact⟨rfl,h1⟩
def fI (F:Int->V):V->V
 |.int k=>F k
 |v=>v
theorem Uz {lo:Int}{n:Nat}{F:Int->V}{G:Nat->Str}(h:∀ k<n,F (lo+(k:Int)) = .str (G k)):((List.range n).map λ(i:Nat)=>V.int (lo+(i:Int))).map (fI F)=((List.range n).map G).map V.str:=by rw[A1A,A1A];refine A12 λk hk=>?_;exact h k (A2A.mp hk)
theorem Tx:LL.length<=sizeLine:=by rw[az1,A1F];omega
theorem Wv {ns:List Str}(h:Names ns){k:Int}:∃ ms,Wq (ns.map V.str) k=ms.map V.str/\Names ms/\ms.length=ns.length:=by
 unfold Wq
 split
 . exact⟨ns,rfl,h,rfl⟩
 exact⟨ns.reverse,by rw[List.map_reverse],h.reverse,A3V ..⟩
theorem ExtBut.off {d q:Addr}{H H1 H2:Hp}(e:ExtBut d H H1)(hq:H q=none)(e2:ExtBut q H1 H2):ExtBut d H H2:=λb o n h=>e2 b o (ne_of_none h hq) (e b o n h)
theorem Same.off {q:Addr}{H H1 H2:Hp}(e:Same H H1)(hq:H q=none)(e2:ExtBut q H1 H2):Same H H2:=λb o h=>e2 b o (ne_of_none h hq) (e b o h)
theorem an6 {α:Type}{l:List α}{i:Nat}{x y:α}(h:l[i]? = some x):l.getD i y=x:=by rw[A1Q,h];rfl
theorem Fw {α:Type}{l:List α}{i:Nat}{y:α}(h:i<l.length):l[i]? = some (l.getD i y):=by rw[A1Q,A05 h];rfl
inductive Way (ps:List (Str×Str)):Str->Str->Prop
 |one {x y:Str}:(x,y)∈ps->Way ps x y
 |cons {x z y:Str}:(x,z)∈ps->Way ps z y->Way ps x y
theorem Way.trans {ps:List (Str×Str)}{x y z:Str}(h:Way ps x y)(g:Way ps y z):Way ps x z:=by
 induction h with
 |one e=>exact .cons e g
 |cons e _ ih=>exact .cons e (ih g)
theorem Way.snoc {ps:List (Str×Str)}{x y z:Str}(h:Way ps x y)(g:(y,z)∈ps):Way ps x z:=h.trans (.one g)
theorem Way.left {ps:List (Str×Str)}{x y:Str}(h:Way ps x y):x∈ps.map (·.1):=by
 cases h with
 |one e=>exact A0E.mpr ⟨_,e,rfl⟩
 |cons e _=>exact A0E.mpr ⟨_,e,rfl⟩
theorem Way.right {ps:List (Str×Str)}{x y:Str}(h:Way ps x y):y∈ps.map (·.2):=by
 induction h with
 |one e=>exact A0E.mpr ⟨_,e,rfl⟩
 |cons _ _ ih=>exact ih
theorem Way.shut {ps:List (Str×Str)}{S:Str->Prop}{x:Str}(h0:∀ y,(x,y)∈ps->S y)(h1:∀ z y,S z->(z,y)∈ps->S y){y:Str}(g:Way ps x y):S y:=by
 induction g with
 |one e=>exact h0 _ e
 |cons e _ ih=>exact ih λy hy=>h1 _ _ (h0 _ e) hy
theorem aN9 {z:Str}(h:Nt z=true):PyData.strOk z=true/\z.cps.size<=8:=by unfold Nt at h;simp only[Bool.and_eq_true,decide_eq_true_eq] at h;refine⟨?_,h.1.2⟩;unfold PyData.strOk;rw[<- Array.all_toList,A1B];intro c hc;have:=A1B.mp h.2 c hc;unfold Kq at this;simp only[Bool.and_eq_true,decide_eq_true_eq] at this;exact A0Z nofun
def NmP (ps:List (Str×Str)):Prop:=∀ p∈ps,Nt p.1=true/\Nt p.2=true
theorem Cc {α:Type}[DecidableEq α]:∀ {xs ys:List α},xs.Nodup->(∀ x∈xs,x∈ys)->xs.length<=ys.length
 | [],_,_,_=>A3G _
 |x :: xs,ys,h,hs=>by
   rw[A0P] at h;have hx:x∈ys:=hs x A0M
   have ih:=Cc (xs:=xs) (ys:=ys.erase x) h.2 λz hz=>by refine(List.mem_erase_of_ne ?_).mpr (hs z (A0B _ hz));intro e;subst e;exact h.1 hz
   rw[List.length_erase_of_mem hx] at ih;have:0<ys.length:=List.length_pos_of_mem hx;rw[A0N];omega
section
variable {c:TT}{tb:TS}{D:Ends}{σ:St}{H:Hp}
theorem au8 (W:Nat->St->Hp->Prop)(m:Nat)(h0:W m σ H)
  (hs:∀ m σ H,W m σ H->c σ H λb H1=>if b=true then ∃ N:St->Hp->Prop,(∀ σ' H',N σ' H'->∃ m',m'<m/\W m' σ' H')/\tb {D with nx:=N,ct:=N,bk:=D.nx} σ H1 else D.nx σ H1):ah1 c tb D σ H:=⟨W,⟨m,h0⟩,hs⟩
theorem ay6 {W:Nat->St->Hp->Prop}{m:Nat}(h:tb {D with nx:=fun σ' H'=>∃ m',m'<m/\W m' σ' H',ct:=fun σ' H'=>∃ m',m'<m/\W m' σ' H',bk:=D.nx} σ H) :
  ∃ N:St->Hp->Prop,(∀ σ' H',N σ' H'->∃ m',m'<m/\W m' σ' H')/\tb {D with nx:=N,ct:=N,bk:=D.nx} σ H:=⟨_,λ_ _ h=>h,h⟩
end
section
variable {X:Cx}{K:W.Frag}
def Tt:V->List V->Hp->VK->Prop:=λx vs H Q=>∃ d o kvs more,x = .ref d/\vs=[.ref o]/\d≠o/\H d=some (.dK kvs)/\H o=some (.dK more)/\kvs.length+more.length<=1000000/\Q .non (upd H d (.dK (Gf kvs more)))
theorem a02:MtM X "dict.update" Tt:=by
 intro pins s σ H x vs v us Q I rx rv h;obtain⟨d,o,kvs,more,rfl,rfl,hdo,hD,hO,hz,q⟩:=h
 cases rx;obtain⟨u,rfl,ru⟩:=rv.one
 cases ru;obtain⟨z1,hd1,vs1,rel1,dd1⟩:=T7 I.hok hD;obtain⟨z2,hd2,vs2,rel2,dd2⟩:=T7 I.hok hO;have l1:kvs.length=vs1.length:=rel1.length;have l2:more.length=vs2.length:=rel2.length;refine A3O F.slot_dict_update dd1.typeIs F.entry_dict_update (F.args_dict_update_2 _ _) (meets_dict_update (Ao X.prog X.w) d o hdo hd2) ⟨vs1,vs2,dd1,dd2,A8 nofun,λh' dd' _ hs=>?_⟩;have he:∃ q,h'.get? d=some q:=let ⟨q,_,_,hq,_⟩:=dd';⟨q,hq⟩;refine⟨.non,_,Qd I (by rw[hD];exact A1J) hs he (Wh ?_ hd1 (KV.merge rel2 rel1) dd'),rfl,q⟩;have:=Ft more kvs;exact A8 nofun
end
theorem Mr:entryFor table "dict.update.loop" = some Builtin.«dict.update.loop»:=entryFor_of_tree (by kernel_rfl)
theorem Hq:plainId "dict.update.loop" = true:=by decide +kernel
theorem Sg:typeLookup (.type "list") "keys" = pure none:=by rw[typeLookup_type,builtinLookup_eq_fast];kernel_rfl
section
variable {prog:Program}{w:World}{κ:Type}[DecidableEq κ]{knd:KeyKind prog w κ}{A:Around}{E:Value->Shared->Prop}{s:Shared}
theorem Zn {a:Addr}{xs:Array Value}{k:Nat}{Q:Option Value->Shared->Prop}(hx:s.heap.get? a=some {cls:=.type "list",data:=.seq xs k})(hA:A.handled=none)
  (h:∀ h' tk,(∀ b o,s.heap.get? b=some o->h'.get? b=some o)->Q none {s with heap:=h',toks:=tk}):wpAny (model prog w) A (getAttr? (.ref a) "keys") Q E s:=by
 obtain⟨hp,g,d,tk,os⟩:=s;have hT:∀ tk',(⟨hp,g,d,tk',os⟩:Shared).TypeIs (.ref a) "list":=λ_=>⟨_,hx,rfl⟩;have f1:=sub_AttributeError;have f3:=F.slot_list_getattribute.lookup;have f4:=F.slot_list_getattribute.bind (.ref a);have f5:=am_list_getattr_none;unfold getAttr? getAttrBy? getAttrBy
 repeat (any_goals (first | assumption | exact hT _ | ((with_reducible show wpAny _ _ (call (Value.builtin "list.__getattribute__") _ _) _ _ _);refine A3S F.slot_list_getattribute (hT _) am_entry_list_getattribute (F.args_list_getattribute_2 _ _) (meets_getattribute_miss_list a xs k #[] "keys" _ Sg (by decide +kernel) (by rw[A1F];decide +kernel)) ⟨hx,hA,λh' tk' e hx'=>?_⟩) | wp_step))
 obtain⟨t',u',he⟩:=hx'.there;show wpAny _ _ (getattributeRaised _ _ _ _ _ _ _) _ _ _;unfold getattributeRaised
 repeat (any_goals (first | assumption | wp_step))
 exact h _ _ hx'.keeps
theorem Xi {t:Addr}{k v:Value}{Q:List Value->Shared->Prop}(ht:IsTup s.heap t #[k,v])(h:Q [k,v] s):wpAny (model prog w) A (Builtin.Dict.pairItems (.ref t)) Q E s:=by obtain⟨o,ho,hc,n,hd⟩:=ht;unfold Builtin.Dict.pairItems;refine A03 (A3M ⟨o,ho,hc⟩ ?_);rw[A0R ∅];refine A03 (A51 ho hd ?_);exact A09 h
theorem a61 {I D l:Addr}{items:Array Value}(hh:A.in1.handled=none)(hne:l≠I)(hDI:D≠I)(hDl:D≠l)(pk:List (κ×Value×Addr×Value))(hlen:pk.length=items.size)(hz:items.size<=1000000) :
  ∀(j i:Nat) (s:Shared) (R:Result->Shared->Prop),items.size-i=j->i<=items.size->s.heap.IsListIter I l i->s.heap.IsList l items ->
   s.heap.DictOf knd D (merged [] ((pk.take i).map λp=>(p.1,p.2.1))) ->
   (∀(n:Nat) (p:κ×Value×Addr×Value),pk[n]? = some p->items[n]? = some (Value.ref p.2.2.1)/\p.2.2.1≠I/\p.2.2.1≠D/\IsTup s.heap p.2.2.1 #[p.2.2.2,p.2.1]/\knd.is p.1 p.2.2.2=true) ->
   (∀ h' tk,h'.DictOf knd D (merged [] (pk.map λp=>(p.1,p.2.1)))->(∀ b o,b≠D->b≠I->s.heap.get? b=some o->h'.get? b=some o)->R (.ok (.ret .none)) {s with heap:=h',toks:=tk}) ->
   codeAny (model prog w) A (.builtin "dict.update.loop" ⟨[.ref D,.ref I,.int i 0,.none],[]⟩) R s:=by
 have W:=Walks.list (prog:=prog) (w:=w) hh I l hne items;intro j
 induction j with
 |zero=>
   intro i s R hj hi hI hL hD hP hR;have hin:i=items.size:=by omega
   subst hin;refine A3X Mr ?_;rw[A3R Hq _];show wpAny _ A.in1 (pyNext (.ref I) >>= _) _ _ s;refine A03 (W.done s _ _ ⟨hI,hL⟩ λh' tk hm=>?_);show wpAny _ A.in1 (Builtin.Dict.addKeywords D [] >>= _) _ _ _;refine wpAny_bind (wpAny_pure (wpAny_pure (hR h' tk ?_ λb o hb hb' e=>hm b o (by simpa using hb') e)));rw[<- hlen,A11] at hD;obtain⟨o,es,ep,ho,r⟩:=hD;exact⟨o,es,ep,hm D o (by simpa using hDI) ho,r⟩
 |succ j ih=>
   intro i s R hj hi hI hL hD hP hR;have hlt:i<items.size:=by omega
   obtain⟨p,hp⟩:∃ p,pk[i]? = some p:=⟨pk[i]'nofun,A05 _⟩;obtain⟨q1,q2,q3,q4,q5⟩:=hP i p hp;refine A3X Mr ?_;rw[A3R Hq _];show wpAny _ A.in1 (pyNext (.ref I) >>= _) _ _ s;refine A03 (W.item i s _ _ hlt ⟨hI,hL⟩ λv h' tk hv hst hm=>?_)
   have hv':v = .ref p.2.2.1:=by have hv2:items[i]? = some v:=hv;rw[q1] at hv2;exact(A0O hv2).symm
   subst hv'
   have ht':IsTup h' p.2.2.1 #[p.2.2.2,p.2.1]:=by obtain⟨o,ho,r⟩:=q4;exact⟨o,hm _ o (by simpa using q2) ho,r⟩
   have hD':h'.DictOf knd D (merged [] ((pk.take i).map λp=>(p.1,p.2.1))):=by obtain⟨o,es,ep,ho,r⟩:=hD;exact⟨o,es,ep,hm D o (by simpa using hDI) ho,r⟩
   show wpAny _ A.in1 (holding [Value.ref p.2.2.1] _ >>= _) _ _ _;refine A03 (A20 ?_);refine A03 (wpAny_tryCatch (Xi ht' ?_));show wpAny _ A.in1 (holding [p.2.2.2,p.2.1] (dictSet D p.2.2.2 p.2.1)) _ _ _;refine A20 (wpAny_dictSet_pairs q5 hD' (λh'' hD'' hs=>?_) ?_)
   . refine A09 ⟨A4D Hq _,?_⟩;have hkeep:∀ b o,b≠D->b≠I->s.heap.get? b=some o->h''.get? b=some o:=λb o h1 h2 e=>(hs.2 b h1).trans (hm b o (by simpa using h2) e);refine ih (i+1) _ R nofun hlt ?_ ?_ ?_ (λn p' hp'=>?_) λh3 tk3 hD3 hk3=>hR h3 tk3 hD3 λb o h1 h2 e=>hk3 b o h1 h2 (hkeep b o h1 h2 e)
     . exact hst.1.at λo e=>(hs.2 I (Ne.symm hDI)).trans e
     . exact hst.2.at λo e=>(hs.2 l (Ne.symm hDl)).trans e
     . have e:merged [] ((pk.take (i+1)).map λp=>(p.1,p.2.1))=stored (merged [] ((pk.take i).map λp=>(p.1,p.2.1))) p.1 p.2.1:=by rw[A0S,hp];unfold merged;rw[A16,List.foldl_append];rfl
       rw[e];exact hD''
     obtain⟨a1,a2,a3,⟨o,ho,r⟩,a5⟩:=hP n p' hp';exact⟨a1,a2,a3,⟨o,hkeep _ o a3 a2 ho,r⟩,a5⟩
   refine A0L (merged_length_le _ _) (A8 ?_);rw[A02,A14];simp;omega
theorem Nu {l:Addr}{items:Array Value}{n:Nat}{Q:Value->Shared->Prop}(hl:s.heap.get? l=some {cls:=.type "list",data:=.seq items n})(hA:A.handled=none)(pk:List (κ×Value×Addr×Value))(hlen:pk.length=items.size)(hz:items.size<=1000000)
  (hP:∀(n:Nat) (p:κ×Value×Addr×Value),pk[n]? = some p->items[n]? = some (Value.ref p.2.2.1)/\IsTup s.heap p.2.2.1 #[p.2.2.2,p.2.1]/\knd.is p.1 p.2.2.2=true)
  (h:∀ h' tk,h'.DictOf knd s.heap.objs.size (merged [] (pk.map λp=>(p.1,p.2.1)))->(∀ b o,s.heap.get? b=some o->h'.get? b=some o)->Q (.ref s.heap.objs.size) {s with heap:=h',toks:=tk}) :
  wpAny (model prog w) A (call (.type "dict") [.ref l]) Q E s:=by
 refine callType_codes (Q₁:=λobj s₁=>obj = .ref s.heap.objs.size/\s₁={s with heap:=s.heap.push {cls:=.type "dict",data:=.dict #[]}}) F.kt_called_dict (F.kt_typeCall_dict_1 _) F.entry_dict_init (kt_code_dict_new _ ⟨rfl,rfl⟩) ?_
 rintro obj s₁ ⟨rfl,rfl⟩;have hnew:(s.heap.push {cls:=.type "dict",data:=.dict #[]}).DictOf knd s.heap.objs.size []:=Heap.DictOf.new s.heap;have hl':(s.heap.push {cls:=.type "dict",data:=.dict #[]}).get? l=some {cls:=.type "list",data:=.seq items n}:=A01 _ hl;have hll:l<s.heap.objs.size:=A06 hl;refine⟨hnew.typeIs,F.args_dict_init_2 _ _,?_⟩;unfold Builtin.«dict.__init__»;refine A03 ?_;unfold Builtin.Dict.selfAndRest;refine A03 (wpAny_notOrdered_dict hnew.typeIs ?_);show wpAny _ _ (pure (s.heap.objs.size,[Value.ref l])) _ _ _;refine A09 ?_;show wpAny _ _ (Builtin.Dict.updateFrom "dict.__init__" s.heap.objs.size (.ref l) [] .none) _ _ _;unfold Builtin.Dict.updateFrom;refine A03 (A3M ⟨_,hl',rfl⟩ ?_);rw[A0R ∅];refine wpAny_bind (Zn hl' (by simpa using hA) λh1 tk1 hk1=>?_);have hl1:h1.get? l=some {cls:=.type "list",data:=.seq items n}:=hk1 _ _ hl';rw[A0R (show(none:Option Value).isNone=true from rfl)]
 have hD1:h1.DictOf knd s.heap.objs.size []:=by obtain⟨o,es,ep,ho,r⟩:=hnew;exact⟨o,es,ep,hk1 _ _ ho,r⟩
 have hsz:s.heap.objs.size<h1.objs.size:=by obtain⟨o,es,ep,ho,r⟩:=hD1;exact A06 ho
 refine A03 (wpAny_rule ?_);have hL1:h1.IsList l items:=⟨_,hl1,rfl,n,rfl⟩;refine A03 (A48 hL1 ?_);refine A09 ⟨A4D Hq _,?_⟩;have kp:∀ b o,s.heap.get? b=some o->(h1.push {cls:=.type "list_iterator",data:=.fields #[.ref l,.int 0 0]}).get? b=some o:=λb o e=>A01 _ (hk1 _ _ (A01 _ e));refine a61 (knd:=knd) (A:=A.in1) (I:=h1.objs.size) (D:=s.heap.objs.size) (l:=l) (items:=items) (by simpa using hA) (Nat.ne_of_lt (Nat.lt_trans hll hsz)) (Nat.ne_of_lt hsz) (Nat.ne_of_gt hll) pk hlen hz items.size 0 _ _ (Nat.sub_zero _) (Nat.zero_le _) ⟨_,Heap.get?_push_size _ rfl,rfl,rfl⟩ (hL1.push _) ?_ (λm p hp=>?_) λh' tk hD hk=>?_
 . exact hD1.push _
 . obtain⟨a1,⟨o,ho,r⟩,a3⟩:=hP m p hp;have hlt:=A06 ho;exact⟨a1,A0K (A4R hlt hsz),A0K hlt,⟨o,kp _ _ ho,r⟩,a3⟩
 refine⟨rfl,h h' tk hD λb o e=>?_⟩;have hlt:=A06 e;exact hk b o (A0K hlt) (A0K (A4R hlt hsz)) (kp b o e)
end
def PrsK (K:W.Frag)(H:Hp):List (Key×V)->List V->Prop
 | [],ys=>ys=[]
 |kv :: r,ys=>∃ t ys',ys = .ref t :: ys'/\SqT K H t [kV kv.1,kv.2]/\PrsK K H r ys'
theorem PrsK.pk {X:Cx}{pins:List (Addr×Obj)}{σ:St}{H:Hp}{s:Shared}(I:Inv X pins σ H s):∀(kvs:List (Key×V)) (ys:List V) (its:List Value),PrsK X.K H kvs ys->Vals ys its ->
  ∃ pk:List (Key×Value×Addr×Value),pk.length=its.length/\KV kvs (pk.map λp=>(p.1,p.2.1))/\∀(n:Nat) (p:Key×Value×Addr×Value),pk[n]? = some p->its[n]? = some (Value.ref p.2.2.1)/\IsTup s.heap p.2.2.1 #[p.2.2.2,p.2.1]/\(Ao X.prog X.w).is p.1 p.2.2.2=true
 | [],ys,its,h,v=>by
   have h':ys=[]:=h;subst h'
   cases v;exact ⟨[],rfl,.nil,λn p hp=>by simp at hp⟩
 |kv :: r,ys,its,h,v=>by
   obtain⟨t,ys',rfl,h2,h3⟩:=h
   cases v with
   |cons v1 v2=>
     obtain⟨pk,l1,l2,l3⟩:=PrsK.pk I r ys' _ h3 v2
     cases v1;obtain ⟨its2,rv,ht,_⟩:=I.tuple h2;obtain⟨key,val,rfl,a1,a3⟩:=Vals.two rv;refine⟨(kv.1,val,t,key) :: pk,by simp[l1],.cons ⟨rfl,a3⟩ l2,λn p hp=>?_⟩
     cases n with
     |zero=>have:p=(kv.1,val,t,key):=(Option.some.inj (by simpa using hp)).symm;subst this;exact⟨rfl,ht,Qn a1⟩
     |succ n=>exact l3 n p (by simpa using hp)
section
variable {X:Cx}{K:W.Frag}
def a53 (K:W.Frag):List V->Hp->VK->Prop:=λxs H Q=>∃ l ys kvs,xs=[V.ref l]/\H l=some (.lst ys)/\PrsK K H kvs ys/\ys.length<=1000000/\kvs.length<=1000000/\∀ p,H p=none->Q (.ref p) (upd H p (.dK (Gf [] kvs)))
theorem X4 (hr:X.A.handled=none):CallR X (.type "dict") (a53 X.K):=by
 intro pins s σ H xs us Q I rv h;obtain⟨l,ys,kvs,rfl,hl,hp,hz,hz2,q⟩:=h;obtain⟨u,rfl,ru⟩:=rv.one
 cases ru;obtain⟨z,its,n,r,hlen,e⟩:=I.lstM hl;obtain⟨pk,l1,l2,l3⟩:=PrsK.pk I kvs ys its hp r;refine Nu (knd:=Ao X.prog X.w) e hr pk (by simpa using l1) (by simp;omega) (λn p hp=>?_) λh' tk hD hk=>?_
 . obtain⟨a1,a2,a3⟩:=l3 n p hp;exact⟨by simpa using a1,a2,a3⟩
 refine⟨.ref s.heap.objs.size,_,I.laid hk (A07 _) (Wh ?_ ?_ (KV.merge l2 .nil) hD),rfl,q _ (I.hok.fresh (A07 _))⟩
 . have:=Ft kvs [];exact A8 (by simpa using Nat.le_trans this (by simpa using hz2))
 exact A0Y.mpr (A3K I.big)
theorem Lw (hr:X.A.handled=none)(hK:X.K=K:=by ac_nf):CallR X (.type "dict") (a53 K):=hK ▸ X4 hr
end
def Jh (ns:List Str)(as:List Addr):List (Key×V):=(ns.zip as).map λp=>(Sum.inr p.1,V.ref p.2)
def Kj (ks:List Str):List (Key×V):=ks.map λy=>(Sum.inr y,V.bl true)
theorem Fy:∀ {ns:List Str} {as:List Addr} {i:Nat} {z:Str} {a:Addr},ns.Nodup->ns[i]? = some z->as[i]? = some a->Dj (Jh ns as) (Sum.inr z:Key)=some (.ref a)
 | [],_,i,_,_,_,h,_=>by simp at h
 |n :: ns,[],i,_,_,_,_,h=>by simp at h
 |n :: ns,b :: as,0,z,a,_,h,g=>by simp at h g;subst h g;exact Ba rfl
 |n :: ns,b :: as,i+1,z,a,hn,h,g=>by
   rw[A0P] at hn;have h':ns[i]? = some z:=by simpa using h
   have ne:¬ (Sum.inr n:Key)=Sum.inr z:=by
    intro e;have e2:n=z:=by injection e
    subst e2;exact hn.1 (A04 h')
   show Dj ((Sum.inr n,V.ref b) :: Jh ns as) _=_;rw[B6 ne];exact Fy hn.2 h' (by simpa using g)
theorem Qm (y:Str):∀ ks:List Str,Dj (Kj ks) (Sum.inr y:Key)=if y∈ks then some (.bl true) else none
 | []=>by simp[Kj,ad5]
 |k :: ks=>by
   show Dj ((Sum.inr k,V.bl true) :: Kj ks) _=_
   by_cases e:k=y
   . subst e;rw[Ba rfl,A0R A0M]
   rw[B6 (by intro q;injection q with q;exact e q),Qm y ks]
   have:(y∈k :: ks)↔y∈ks:=by simp[Ne.symm e]
   simp only[this]
def a91 (ks:List Str)(y:Str):List Str:=if y∈ks then ks else ks++[y]
theorem mem_addK {ks:List Str}{y z:Str}:z∈a91 ks y↔z∈ks\/z=y:=by
 unfold a91
 split
 . constructor
   . exact .inl
   rintro(h|rfl)
   . exact h
   assumption
 simp
theorem Qb {ks:List Str}{y:Str}(h:ks.Nodup):(a91 ks y).Nodup:=by
 unfold a91
 split
 . exact h
 rename_i hy;rw[A1S];refine⟨h,by simp,λa ha b hb e=>?_⟩;have:b=y:=by simpa using hb
 subst this;subst e;exact hy ha
theorem ao9 (y:Str)(ks:List Str):((Kj ks).any λkv=>decide (kv.1=(Sum.inr y:Key)))=decide (y∈ks):=by
 induction ks with
 |nil=>simp[Kj]
 |cons k ks ih=>
   show(decide ((Sum.inr k:Key)=Sum.inr y)||(Kj ks).any _)=_
   rw[ih]
   by_cases e:k=y
   . subst e;simp
   have e':¬ (Sum.inr k:Key)=Sum.inr y:=by intro q;injection q with q;exact e q
   simp[e',Ne.symm e]
theorem a69 (ks:List Str)(y:Str):Fs (Kj ks) (Sum.inr y:Key) (.bl true)=Kj (a91 ks y):=by
 unfold Fs a91;rw[ao9]
 by_cases h:y∈ks
 . rw[A0R (A0Z h),A0R h];unfold Kj;rw[A1A];refine A12 λk _=>?_;show(if(Sum.inr k:Key)=Sum.inr y then(Sum.inr k,V.bl true) else(Sum.inr k,V.bl true))=_
   split<;>rfl
 rw[if_neg (by simpa using h),if_neg h];unfold Kj;rw[A16];rfl
def Dh (ks ms:List Str):List Str:=ms.foldl a91 ks
theorem Sn:∀(ms ks:List Str),Gf (Kj ks) (Kj ms)=Kj (Dh ks ms)
 | [],ks=>rfl
 |m :: ms,ks=>by show Gf (Fs (Kj ks) (Sum.inr m) (.bl true)) (Kj ms)=_;rw[a69,Sn ms];rfl
theorem mem_addAll:∀ {ms ks:List Str} {z:Str},z∈Dh ks ms↔z∈ks\/z∈ms
 | [],ks,z=>by simp[Dh]
 |m :: ms,ks,z=>by show z∈Dh (a91 ks m) ms↔_;rw[mem_addAll,mem_addK,A0C,or_assoc]
theorem Fl:∀ {ms ks:List Str},ks.Nodup->(Dh ks ms).Nodup
 | [],ks,h=>h
 |m :: ms,ks,h=>Fl (ms:=ms) (Qb h)
theorem Ug (ks:List Str):(Kj ks).length=ks.length:=by simp[Kj]
theorem Kz:∀(kvs acc:List (Key×V)),(kvs.map (·.1)).Nodup->(∀ k∈kvs,∀ q∈acc,q.1≠k.1)->Gf acc kvs=acc++kvs
 | [],acc,_,_=>by simp[Gf]
 |k :: kvs,acc,hn,hd=>by
   show Gf (Fs acc k.1 k.2) kvs=_
   have e:Fs acc k.1 k.2=acc++[k]:=by
    unfold Fs
    have:¬ (acc.any λkv=>decide (kv.1=k.1))=true:=by rw[A1Z];rintro⟨q,hq,e⟩;exact hd k A0M q hq (of_decide_eq_true e)
    rw[A0J this]
   rw[A0H,A0P] at hn;rw[e,Kz kvs (acc++[k]) hn.2 λx hx q hq=>?_,A2V]
   . rfl
   rcases A0G.mp hq with hq|hq
   . exact hd x (A0B _ hx) q hq
   have:q=k:=by simpa using hq
   subst this;intro e;exact hn.1 (A0E.mpr ⟨x,hx,e.symm⟩)
structure Tab (H:Hp)(r:Addr)(ns:List Str)(as:List Addr)(R:Str->Str->Prop):Prop where
 len:as.length=ns.length
 nd:as.Nodup
 nr:r∉as
 top:H r=some (.dK (Jh ns as))
 row:∀(i:Nat) (z:Str) (a:Addr),ns[i]? = some z->as[i]? = some a->∃ ks:List Str,H a=some (.dK (Kj ks))/\ks.Nodup/\(∀ y∈ks,y∈ns)/\∀ y,y∈ks↔R z y
theorem Tab.same {H H':Hp}{r:Addr}{ns:List Str}{as:List Addr}{R:Str->Str->Prop}(h:Tab H r ns as R)(e:Same H H'):Tab H' r ns as R:=
 ⟨h.len,h.nd,h.nr,e _ _ h.top,λi z a hz ha=>let ⟨ks,h1,h2⟩:=h.row i z a hz ha;⟨ks,e _ _ h1,h2⟩⟩
theorem Tab.congr {H:Hp}{r:Addr}{ns:List Str}{as:List Addr}{R R':Str->Str->Prop}(h:Tab H r ns as R)(e:∀ z∈ns,∀ y,R z y↔R' z y):Tab H r ns as R':=
 ⟨h.len,h.nd,h.nr,h.top,λi z a hz ha=>let ⟨ks,h1,h2,h3,h4⟩:=h.row i z a hz ha;⟨ks,h1,h2,h3,λy=>(h4 y).trans (e z (A04 hz) y)⟩⟩
theorem Tab.put {H H':Hp}{r b:Addr}{ns:List Str}{as:List Addr}{R R':Str->Str->Prop}(h:Tab H r ns as R)(e:ExtBut b H H'){j:Nat}{x:Str}(hn:ns.Nodup)(hj:ns[j]? = some x)(hb:as[j]? = some b){ks:List Str}
  (hk:H' b=some (.dK (Kj ks))) (k1:ks.Nodup) (k2:∀ y∈ks,y∈ns) (k3:∀ y,y∈ks↔R' x y) (k4:∀ z∈ns,z≠x->∀ y,R z y↔R' z y):Tab H' r ns as R':=by
 refine⟨h.len,h.nd,h.nr,e _ _ (λq=>h.nr (q ▸ A04 hb)) h.top,λi z a hz ha=>?_⟩
 by_cases hij:i=j
 . subst hij;rw[hz] at hj
   cases hj;rw[ha] at hb
   cases hb;exact⟨ks,hk,k1,k2,k3⟩
 obtain⟨ms,h1,h2,h3,h4⟩:=h.row i z a hz ha
 have hab:a≠b:=by intro q;subst q;obtain⟨p1,p2⟩:=A00.mp ha;obtain⟨q1,q2⟩:=A00.mp hb;exact hij ((A1G h.nd).mp (p2.trans q2.symm))
 have hzx:z≠x:=by intro q;subst q;obtain⟨p1,p2⟩:=A00.mp hz;obtain⟨q1,q2⟩:=A00.mp hj;exact hij ((A1G hn).mp (p2.trans q2.symm))
 exact⟨ms,e _ _ hab h1,h2,h3,λy=>(h4 y).trans (k4 z (A04 hz) hzx y)⟩
theorem Tab.at {H:Hp}{r:Addr}{ns:List Str}{as:List Addr}{R:Str->Str->Prop}(h:Tab H r ns as R){x:Str}(hx:x∈ns):∃(i:Nat) (a:Addr),ns[i]? = some x/\as[i]? = some a:=by
 obtain⟨i,hi,e⟩:=A2L hx;have hi':i<as.length:=by rw[h.len];exact hi
 exact⟨i,as[i],by rw[A05 hi,e],A05 hi'⟩
section
variable {K:W.Frag}{H:Hp}{Q:VK}{r:Addr}{ns:List Str}{as:List Addr}{R:Str->Str->Prop}
theorem Qy {x:Str}{i:Nat}{a:Addr}(h:Tab H r ns as R)(hn:ns.Nodup)(hx:ns[i]? = some x)(ha:as[i]? = some a)(k:Q (.ref a) H):Ui K (.ref r) (.str x) H Q:=i_ixD h.top (Fy hn hx ha) k
theorem Rf {a:Addr}{ks:List Str}{y:Str}(h:H a=some (.dK (Kj ks)))(k:Q (.bl (decide (y∈ks))) H):Xf K false (.str y) (.ref a) H Q:=by
 refine .inr (.inr (.inl ⟨a,Dj (Kj ks) (Sum.inr y:Key),rfl,DGet.k (k:=Sum.inr y) h,?_⟩));rw[Qm]
 by_cases e:y∈ks
 . rw[if_pos e];simpa[e] using k
 rw[if_neg e];simpa[e] using k
theorem ao5 {a:Addr}{kvs:List (Key×V)}{B:Prop}(h:H a=some (.dK kvs))(k:B):tyV K "dict" (.ref a) H/\B:=⟨.inr (.inr (.inl ⟨rfl,.inl ⟨kvs,h⟩⟩)),k⟩
theorem aP2 {d o:Addr}{ks ms:List Str}(hd:H d=some (.dK (Kj ks)))(ho:H o=some (.dK (Kj ms)))(hne:d≠o)(hz:ks.length+ms.length<=1000000)(k:∀ H',ExtBut d H H'->H' d=some (.dK (Kj (Dh ks ms)))->Q .non H'):Tt (.ref d) [.ref o] H Q:=
 ⟨d,o,_,_,rfl,rfl,hne,hd,ho,by rw[Ug,Ug];exact hz,k _ ExtBut.upd (by rw[A9,Sn])⟩
end
structure HalfW (ns:List Str)(ps:List (Str×Str)):Prop where
 nd:ns.Nodup
 mem:∀ p∈ps,p.1∈ns/\p.2∈ns
 irr:∀ x,¬ Way ps x x
 few:ns.length<=100
 le:ps.length<=1000
structure War (ns:List Str)(ps:List (Str×Str))(ms:List Str)(R:Str->Str->Prop):Prop where
 snd:∀ z y,R z y->Way ps z y
 edge:∀ z y,(z,y)∈ps->R z y
 shut:∀ m∈ms,∀ z y,R z m->R m y->R z y
def ah2 (R:Str->Str->Prop)(mid:Str)(ms:List Str)(z y:Str):Prop:=R z y\/(z∈ms/\R z mid/\R mid y)
theorem War.step {ns:List Str}{ps:List (Str×Str)}{ms:List Str}{R:Str->Str->Prop}(h:War ns ps ms R){mid:Str}:War ns ps (ms++[mid]) (λz y=>R z y\/(R z mid/\R mid y)):=by
 refine⟨λz y hz=>?_,λz y hz=>.inl (h.edge z y hz),λm hm z y h1 h2=>?_⟩
 . rcases hz with hz|⟨h1,h2⟩
   . exact h.snd z y hz
   exact(h.snd _ _ h1).trans (h.snd _ _ h2)
 rcases A0G.mp hm with hm|hm
 . rcases h1 with h1|⟨h1,h1'⟩
   . rcases h2 with h2|⟨h2,h2'⟩
     . exact .inl (h.shut m hm z y h1 h2)
     exact .inr ⟨h.shut m hm z mid h1 h2,h2'⟩
   rcases h2 with h2|⟨h2,h2'⟩
   . exact .inr ⟨h1,h.shut m hm mid y h1' h2⟩
   exact .inr ⟨h1,h2'⟩
 have e:m=mid:=by simpa using hm
 subst e;rcases h1 with h1|⟨h1,h1'⟩
 . rcases h2 with h2|⟨h2,h2'⟩
   . exact .inr ⟨h1,h2⟩
   exact .inr ⟨h1,h2'⟩
 rcases h2 with h2|⟨h2,h2'⟩
 . exact .inr ⟨h1,h2⟩
 exact .inr ⟨h1,h2'⟩
theorem War.done {ns:List Str}{ps:List (Str×Str)}{R:Str->Str->Prop}(h:War ns ps ns R)(hm:∀ p∈ps,p.1∈ns/\p.2∈ns)(z y:Str):R z y↔Way ps z y:=by
 refine⟨h.snd z y,λg=>?_⟩
 induction g with
 |one e=>exact h.edge _ _ e
 |cons e _ ih=>exact h.shut _ (hm _ e).2 _ _ (h.edge _ _ e) ih
theorem PrsK.fz {K:W.Frag} {H H':Hp} (e:Fz H H'):∀ {kvs:List (Key×V)} {ys:List V},PrsK K H kvs ys->PrsK K H' kvs ys
 | [],_,h=>h
 |kv :: r,ys,⟨t,ys',h1,h2,h3⟩=>⟨t,ys',h1,e.seq h2,PrsK.fz e h3⟩
theorem PrsK.snoc {K:W.Frag}{H:Hp}{kv:Key×V}{t:Addr}(h:SqT K H t [kV kv.1,kv.2]):∀ {kvs:List (Key×V)} {ys:List V},PrsK K H kvs ys->PrsK K H (kvs++[kv]) (ys++[.ref t])
 | [],ys,g=>by have g':ys=[]:=g;subst g';exact⟨t,[],rfl,h,rfl⟩
 |k :: r,ys,⟨u,ys',h1,h2,h3⟩=>by subst h1;exact⟨u,ys'++[.ref t],rfl,h2,PrsK.snoc h h3⟩
theorem PrsK.length {K:W.Frag}{H:Hp}:∀ {kvs:List (Key×V)} {ys:List V},PrsK K H kvs ys->ys.length=kvs.length
 | [],ys,g=>by have g':ys=[]:=g;subst g';rfl
 |k :: r,ys,⟨u,ys',h1,h2,h3⟩=>by subst h1;simp[PrsK.length h3]
theorem Z0 {K:W.Frag}{H:Hp}{Q:VK}{l:Addr}{ys:List V}{kvs:List (Key×V)}(h:H l=some (.lst ys))(g:PrsK K H kvs ys)(hz:kvs.length<=1000000)(k:∀ p H',H p=none->Same H H'->H' p=some (.dK (Gf [] kvs))->Q (.ref p) H'):a53 K [.ref l] H Q:=
 ⟨l, ys,kvs,rfl,h,g,by rw[g.length];exact hz,hz,λp hp=>k p _ hp (Same.upd hp) A9⟩
theorem Qe:∀ {ns:List Str} {as:List Addr},ns.Nodup->((Jh ns as).map (·.1)).Nodup
 | [],as,_=>by simp[Jh]
 |n :: ns,[],_=>by simp[Jh]
 |n :: ns,a :: as,h=>by
   rw[A0P] at h;show((Sum.inr n:Key) :: (Jh ns as).map (·.1)).Nodup;rw[A0P];refine⟨λhm=>?_,Qe h.2⟩;obtain⟨kv,hkv,e⟩:=A0E.mp hm;obtain⟨p,hp,rfl⟩:=A0E.mp hkv;have e':p.1=n:=by injection e
   exact h.1 (e' ▸ (A35 hp).1)
theorem R8 {ns:List Str}{as:List Addr}{z:Str}{a:Addr}(h:ns.length=as.length):Jh (ns++[z]) (as++[a])=Jh ns as++[(Sum.inr z,V.ref a)]:=by unfold Jh;rw[List.zip_append h,A16];rfl
end L2
namespace L2
open PySem PySem.Spec PyProof.Rows
open Classical in
def Be (ps:List (Str×Str))(x y:Str):Bool:=decide (Way ps x y)
theorem wayB_iff {ps:List (Str×Str)} {x y:Str}:Be ps x y=true↔Way ps x y:=by unfold Be;simp
theorem Zt {ps:List (Str×Str)}{x y:Str}{b:Bool}(h:b=true↔Way ps x y):b=Be ps x y:=by
 cases hb:Be ps x y with
 |true=>exact h.mpr (wayB_iff.mp hb)
 |false=>
   cases b with
   |false=>rfl
   |true=>
     have:=wayB_iff.mpr (h.mp rfl);rw[hb] at this
     cases this
theorem L1 {ps:List (Str×Str)}{x y:Str}{p:Prop}[Decidable p](h:p↔Way ps x y):decide p=Be ps x y:=Zt (by rw[A5D];exact h)
theorem iteR {α:Type}{a:α}{A B:Prop}[Decidable (a=a)](h:A):if decide (a=a)=true then A else B:=by rw[if_pos (by simp)];exact h
section
variable {K:W.Frag}{H:Hp}{σ:St}{x:V}{Q:VK}
theorem Ux {ns:List Str}{g:TG}{tt:TT}{te:TE}{k:Nat}{js:List Nat}(h:Is K H (nmD ns) x)(t:Str->Bool)(f:Str->PyData)(hf:∀ a,frz (f a)=true)(hz:ns.length<=1000000)
  (hs:∀(i:Nat) a H1 (R:VK) (R':Hp->Prop),ns[i]? = some a->Same H H1->(t a=true->∀ y H2,Same H1 H2->Is K H2 (f a) y->R y H2)->(t a=false->∀ H2,Same H1 H2->R' H2) ->
   g (.str a) (List.replicate k none++Pp σ js) H1 fun σ2 H2=>tt σ2 H2 λb H3=>if b=true then te σ2 H3 R else R' H3)
  (hd:∀ p ys H',H p=none->Same H H'->H' p=some (.lst ys)->IsL K H' ((ns.filter t).map f) ys->Q (.ref p) H'):Ge K x H λJ H1=>Ov k js g tt te σ J H1 Q:=by
 obtain⟨a,rfl,hS⟩:=h.nm;refine Nf hS (Hx (K:=K) (Er (xs:=ns.map V.str)) ns (by simp) t f hf (by simpa using hz) (λH' e=>e.seqT hS) (λi z v H1 R R' hz hv e hR hR'=>?_) hd);rw[A08,hz] at hv
 cases hv;exact hs i z H1 R R' hz e hR hR'
theorem W9 {ns:List Str}{a:Addr}{g:TG}{tt:TT}{te:TE}{k:Nat}{js:List Nat}(h:SqL K H a (ns.map V.str))(t:Str->Bool)(f:Str->PyData)(hf:∀ a,frz (f a)=true)(hz:ns.length<=1000000)
  (hs:∀(i:Nat) a H1 (R:VK) (R':Hp->Prop),ns[i]? = some a->Same H H1->(t a=true->∀ y H2,Same H1 H2->Is K H2 (f a) y->R y H2)->(t a=false->∀ H2,Same H1 H2->R' H2) ->
   g (.str a) (List.replicate k none++Pp σ js) H1 fun σ2 H2=>tt σ2 H2 λb H3=>if b=true then te σ2 H3 R else R' H3)
  (hd:∀ p ys H',H p=none->Same H H'->H' p=some (.lst ys)->IsL K H' ((ns.filter t).map f) ys->Q (.ref p) H'):Ge K (.ref a) H λJ H1=>Ov k js g tt te σ J H1 Q:=by
 refine Zl h (Hx (K:=K) (Je (xs:=ns.map V.str)) ns (by simp) t f hf (by simpa using hz) (λH' e=>e.seq h) (λi z v H1 R R' hz hv e hR hR'=>?_) hd);rw[A08,hz] at hv
 cases hv;exact hs i z H1 R R' hz e hR hR'
theorem as2 {ps:List (Str×Str)}{g:TG}{tt:TT}{te:TE}{k:Nat}{js:List Nat}(h:Is K H (psD ps) x)(t:Str×Str->Bool)(f:Str×Str->PyData)(hf:∀ a,frz (f a)=true)(hz:ps.length<=1000000)
  (hs:∀(i:Nat) a v H1 (R:VK) (R':Hp->Prop),ps[i]? = some a->Is K H1 (prD a) v->Same H H1->(t a=true->∀ y H2,Same H1 H2->Is K H2 (f a) y->R y H2)->(t a=false->∀ H2,Same H1 H2->R' H2) ->
   g v (List.replicate k none++Pp σ js) H1 fun σ2 H2=>tt σ2 H2 λb H3=>if b=true then te σ2 H3 R else R' H3)
  (hd:∀ p ys H',H p=none->Same H H'->H' p=some (.lst ys)->IsL K H' ((ps.filter t).map f) ys->Q (.ref p) H'):Ge K x H λJ H1=>Ov k js g tt te σ J H1 Q:=by
 obtain⟨a,xs,rfl,hS,hL⟩:=Is.tup h;have hl:ps.length=xs.length:=by rw[<- IsL.length hL,A02]
 refine Nf hS (Hx (K:=K) (Er (xs:=xs)) ps hl t f hf nofun (λH' e=>e.seqT hS) (λi z v H1 R R' hz hv e hR hR'=>?_) hd);obtain⟨d,e1,e2⟩:=IsL.get (IsL.mono e _ _ hL) hv;rw[A08,hz] at e1
 cases e1;exact hs i z v H1 R R' hz e2 e hR hR'
theorem an8 {ns:List Str}{a:Addr}{ys:List V}(h:H a=some (.lst ys))(g:IsL K H (ns.map PyData.str) ys)(k:∀ v H',Same H H'->Is K H' (nmD ns) v->Q v H'):Lr K [.ref a] H Q:=by have e:=IsL.str_eq g;subst e;exact Gi (SqL.of h) λp H' hp e h'=>k _ H' e (Xl (SqT.of h'))
theorem Yz {ps:List (Str×Str)}{a:Addr}{ys:List V}(h:H a=some (.lst ys))(g:IsL K H (ps.map prD) ys)(k:∀ v H',Same H H'->Is K H' (psD ps) v->Q v H'):Lr K [.ref a] H Q:=
 Gi (SqL.of h) λp H' hp e h'=>k _ H' e (Is.of_tup (SqT.of h') (IsL.mono e _ _ g))
end
end L2
namespace L2
open PySem PySem.Spec PyProof.Rows
open AutoSeq1 (wpAny_loadPart')
section
variable {prog:Program}{w:World}{A:Around}{E:Value->Shared->Prop}{s:Shared}
theorem ar0 {it t:Addr}{i:Nat}{items:Array Value}{x:Value}{Q:Value->Shared->Prop}(hit:s.heap.IsTupleIter it t i)(ht:s.heap.IsTuple t items)(hx:items[i]? = some x)
  (hQ:∀ h',h'.IsTupleIter it t (i+1)->Heap.SameBut it s.heap h'->Q x {s with heap:=h'}):wpAny (model prog w) A (Builtin.SmallTypes.nextOf (.ref it)) Q E s:=by
 obtain⟨o,o1,o2,o3⟩:=id hit;obtain⟨u,u1,_,n,u2⟩:=ht;unfold Builtin.SmallTypes.nextOf;refine A03 (A36 (name:=Str.ofString "__next__") hit.typeIs F.slot_tuple_iterator_next (A4F F.slot_tuple_iterator_next hit.typeIs F.entry_tuple_iterator_next ?_ (F.args_tuple_iterator_next_1 _)));refine A03 (m:=field (.ref it) 0) (A2J o1 o3 (x:=.ref t) rfl ?_);rw[A0J (show ¬ ((Value.ref t==Value.none)=true) by intro h;cases h)];refine A03 (m:=field (.ref it) 1) (A2J o1 o3 (x:=.int i 0) rfl ?_);refine A03 (m:=seqItems? (.ref t)) (A51 u1 u2 ?_);simp only[Int.toNat_natCast,hx];refine wpAny_bind (wpAny_setField o1 o3 (by simp) (wpAny_pure ⟨x,rfl,wpAny_pure (hQ _ ⟨_,Heap.get?_update_self _ o1 (Obj.isFreed_of_fields (Obj.data_mapFields o3 _)),(Obj.cls_mapFields ..).trans o2,?_⟩ (Heap.SameBut.update ..))⟩));rw[A43 o3];simp[rawInt]
theorem az7 {it t:Addr}{i:Nat}{items:Array Value}{Q:Value->Shared->Prop}(hh:A.handled=none)(hit:s.heap.IsTupleIter it t i)(ht:s.heap.IsTuple t items)(hx:items[i]? = none)
  (hE:∀ h' e,Heap.ExtBut it s.heap h'->(∃ o,h'.get? e=some o/\o.cls = .type "StopIteration")->E (.ref e) {s with heap:=h'}):wpAny (model prog w) A (Builtin.SmallTypes.nextOf (.ref it)) Q E s:=by
 obtain⟨o,o1,o2,o3⟩:=id hit;obtain⟨u,u1,_,n,u2⟩:=ht;unfold Builtin.SmallTypes.nextOf;refine A03 (A36 (name:=Str.ofString "__next__") hit.typeIs F.slot_tuple_iterator_next (A4F F.slot_tuple_iterator_next hit.typeIs F.entry_tuple_iterator_next ?_ (F.args_tuple_iterator_next_1 _)));refine A03 (m:=field (.ref it) 0) (A2J o1 o3 (x:=.ref t) rfl ?_);rw[A0J (show ¬ ((Value.ref t==Value.none)=true) by intro h;cases h)];refine A03 (m:=field (.ref it) 1) (A2J o1 o3 (x:=.int i 0) rfl ?_);refine A03 (m:=seqItems? (.ref t)) (A51 u1 u2 ?_);simp only[Int.toNat_natCast,hx];refine wpAny_bind (wpAny_rule (wpAny_bind (wpAny_setField o1 o3 (by simp) ?_)));refine A03 (m:=newExc (.type "StopIteration") []) ?_;simp only[newExc,newTuple];refine A03 (A2C ?_ (by size_fits));refine wpAny_bind (m:=firstArgMember _ _) (wpAny_of_eq (a:=Value.none) (by first | rfl | (simp only[firstArgMember];rfl)) (wpAny_newObj_type ?_ (by size_fits)))
 simp only[raiseNew];refine A03 (wpAny_handled ?_)
 first | rw[show A.in1.handled=none from hh] | rw[hh]
 refine A03 (A09 (wpAny_throw (hE _ _ (((Heap.SameBut.update ..).extBut.push _).push _) ⟨_,A0D _ rfl,rfl⟩)))
theorem am0 (hh:A.handled=none)(it t:Addr)(hne:t≠it)(items:Array Value):Draws prog w A it [it,t] items.size (λi v=>items[i]? = some v) (λi h=>h.IsTupleIter it t i/\h.IsTuple t items) where
 live:=λ_ _ q=>let ⟨o,ho,_⟩:=q.1;⟨o,ho⟩
 frame:=λ_ _ _ q hk=>⟨q.1.at λo e=>hk it (by simp) o e,let ⟨o,ho,r⟩:=q.2;⟨o,hk t (by simp) o ho,r⟩⟩
 item:=λi s Q E hi q hQ=>ar0 q.1 q.2 (x:=items[i]) (by simp[hi]) λh' a b=>hQ _ h' s.toks (by simp[hi]) ⟨a,q.2.extBut b.extBut hne⟩ b
 done:=λs Q E q hE=>az7 hh q.1 q.2 (by simp) hE
theorem Tw (l:Addr)(items:Array Value)(n:Nat)(dct:Option Addr)(sl:Array (Option Value)) :
  Meets (Builtin.«enumerate.__new__» ⟨[.type "enumerate",.ref l],[]⟩) (λ_ R s=>s.heap.get? l=some {cls:=.type "tuple",dict:=dct,data:=.seq items n,slots:=sl} /\
   R (.ok (.ret (.ref (s.heap.push {cls:=.type "tuple_iterator",data:=.fields #[.ref l,.int 0 0]}).objs.size)))
    {s with heap:=(s.heap.push {cls:=.type "tuple_iterator",data:=.fields #[.ref l,.int 0 0]}).push {cls:=.type "enumerate",data:=.fields #[.none,.bool false,.ref s.heap.objs.size,rawInt 0,.none,.none]}}):=
 .of_wp λprog w A R s h=>by
  obtain⟨hp,g,d,tk,os⟩:=s;obtain⟨hl,h⟩:=h;have hsub:=sub_enumerate;have hT:Heap.IsTuple (Shared.heap ⟨hp,g,d,tk,os⟩) l items:=⟨_,hl,rfl,n,rfl⟩
  wp_walk using wpAny_loadPart' hl
  refine wpAny_stack_any λst=>A09 ?_
  split
  . rename_i c _ _ _ _ _
    cases (c==Value.type "enumerate")<;>(wp_walk using wpAny_loadPart' hl,A2Q hT;exact⟨_,rfl,h⟩)
  wp_walk using wpAny_loadPart' hl,A2Q hT
  exact⟨_,rfl,h⟩
theorem Xp {l:Addr}{items:Array Value}{Q:Value->Shared->Prop}(hL:s.heap.IsTuple l items)
  (h:∀ h',IsEnum h' (s.heap.objs.size+1) s.heap.objs.size 0 .none->h'.IsTupleIter s.heap.objs.size l 0->(∀ b o,s.heap.get? b=some o->h'.get? b=some o)->Q (.ref (s.heap.objs.size+1)) {s with heap:=h'}) :
  wpAny (model prog w) A (call (.type "enumerate") [.ref l]) Q E s:=by
 obtain⟨⟨c,dct,dt,sl⟩,hl,hc,n,hd⟩:=hL;replace hc:c = .type "tuple":=hc;replace hd:dt = .seq items n:=hd;subst hc hd;refine callType_new F.called_enumerate ∅ (F.typeCall_enumerate_1 _) (F.newCall_enumerate_1 _) (λobj=>F.args_object_init_2 obj _) F.entry_enumerate_new (Tw l items n dct sl) ⟨hl,?_⟩;have hz:(s.heap.push {cls:=.type "tuple_iterator",data:=.fields #[.ref l,.int 0 0]}).objs.size=s.heap.objs.size+1:=A1U ..;show _/\_;have he:=A0D (s.heap.push {cls:=.type "tuple_iterator",data:=.fields #[.ref l,.int 0 0]}) (o:={cls:=.type "enumerate",data:=.fields #[.none,.bool false,.ref s.heap.objs.size,rawInt 0,.none,.none]}) rfl;rw[hz] at he ⊢;exact⟨⟨_,he,rfl⟩,h _ he ⟨_,A01 _ (A0D _ rfl),rfl,rfl⟩ λb o x=>A01 _ (A01 _ x)⟩
end
theorem Inv.turnedL {X:Cx}{pins:List (Addr×Obj)}{σ:St}{H:Hp}{s:Shared}{h':Heap}{t':Nat}{ch:List Addr}(I:Inv X pins σ H s)(k:∀ b o,b∉ch->s.heap.get? b=some o->h'.get? b=some o)(hf:∀ b∈ch,Vm X pins H b):Inv X pins σ H {s with heap:=h',toks:=t'}:=by
 have nit:∀ b u,H b=some u->b∉ch:=λb u e z=>by rw[(hf b z).1] at e;cases e
 refine I.step (g':=s.gens) (d':=s.drawn) (ch:=ch) (λb hb=>?_) (λb o _ _ hc e _=>k b o hc e) (λb o _ _ hc e _=>⟨o.slots,k b o hc e⟩) (λ_ _ _ _ n=>n)
  (λb o hc e=>⟨o,k b o hc e⟩) (λ_ _ e=>e) (λ_ _ _ e=>e) (λb ps e=>⟨#[],by rw[e];simp⟩) (λm hm=>?_) (λb u e=>?_) I.bare
 . obtain⟨_,h2,_,h4,h5,h6⟩:=hf b hb;exact⟨h4,h2,h5,h6⟩
 . obtain⟨o,es,ep,ho,r⟩:=hm;exact⟨o,es,ep,k _ o (λz=>(hf _ z).2.1 rfl) ho,r⟩
 refine(I.hok b u e).stay (λc v hc q=>k c v ?_ q) (λ_ q=>q) λ_ _ q=>q;rcases hc with z|z
 . rw[z];exact nit b u e
 exact nit c _ z
def Ite (K:W.Frag)(a:Addr):It:=
 ⟨λi H=>∃ xs x,SqT K H a xs/\xs[i]? = some x,λi H v H'=>∃ t x,H t=none/\H'=upd H t (.tup [.int i,x])/\v = .ref t/\∀ xs,SqT K H a xs->xs[i]? = some x,λi H=>∃ xs,SqT K H a xs/\xs.length=i⟩
theorem a62 {P:Program}{w:World}{K:W.Frag}{elts:List Expr}{ek:Nat}{epos:Pos}(a it e:Addr)(hei:e≠it)(hai:a≠it)(hae:a≠e):a85 P w K (.Tuple elts ek epos) (Ite K a) [e,it] e (λi h=>(∃ old,IsEnum h e it i old)/\h.IsTupleIter it a i) where
 mem:=by simp
 obj:=λi h st b hb=>by
  obtain⟨⟨old,h1⟩,o,h2,h3,h4⟩:=st;rcases A0C.mp hb with rfl|hb
  . exact⟨_,h1,λv z=>by cases z⟩
  have q:b=it:=by simpa using hb
  subst q;exact⟨o,h2,λv z=>by rw[h4] at z;cases z⟩
 keep:=λi h h' st k=>by obtain⟨⟨old,h1⟩,h2⟩:=st;exact⟨⟨old,k e (by simp) _ h1⟩,h2.at λo q=>k it (by simp) o q⟩
 item:=by
  intro X hP hw hK hc i pins s σ H E I hf st hg;subst hP hw hK;obtain⟨xs,x,hq,hx⟩:=hg;obtain⟨its,rv,p,hz⟩:=I.tuple hq
  have hil:i<its.length:=by have:=(A00.mp hx).1;rw[<- rv.length];exact this
  have D:=am0 (prog:=X.prog) (w:=X.w) (A:=X.A.in1) (by simpa using I.ok.hd hc) it a hai its.toArray;obtain⟨⟨old,he⟩,hit⟩:=st;have hel:e<s.heap.objs.size:=A06 he;have hil':it<s.heap.objs.size:=let ⟨_,q,_⟩:=hit;A06 q;refine wpAny_pyNext_enum_itemD D he ⟨hit,p⟩ (by simpa using hil) hei (by simp[hei,Ne.symm hae]) λv h1 tk hv ho hst hT hsz hk=>?_;obtain⟨u,hu,ru⟩:=rv.get hx
  have hvu:v=u:=by have hv':its.toArray[i]? = some v:=hv;rw[A2T,hu] at hv';exact(A0O hv').symm
  subst hvu;refine⟨_,rfl,wpAny_letOwnedTupleGo_enum ho λh2 he2 hs2=>?_⟩;have hTn:H s.heap.objs.size=none:=I.hok.fresh (A07 _);have hT2:h2.get? s.heap.objs.size=some {cls:=.type "tuple",data:=.seq #[.int i tk,v]}:=(hs2.2 _ (A3K hel)).trans hT
  have I1:Inv X pins σ (upd H s.heap.objs.size (.tup [.int i,x])) {s with heap:=s.heap.push {cls:=.type "tuple",data:=.seq #[.int i tk,v]}}:=
   I.laid (t':=s.toks) (λb ob q=>Heap.get?_push_of_some _ q) (Nat.le_refl _) ⟨by simp[sizeLine_eq],[.int i tk,v],.cons ⟨tk,rfl⟩ (.cons ru .nil),_,Heap.get?_push_size _ rfl,rfl,⟨_,rfl⟩,rfl⟩
  have nT:∀ b∈[e,it],b≠s.heap.objs.size:=λb hb=>by
   rcases A0C.mp hb with rfl|hb
   . exact A0K hel
   have q:b=it:=by simpa using hb
   subst q;exact A0K hil'
  have I2:Inv X pins σ (upd H s.heap.objs.size (.tup [.int i,x])) {s with heap:=h2,toks:=tk+1}:=Inv.turnedL (s:={s with heap:=s.heap.push {cls:=.type "tuple",data:=.seq #[.int i tk,v]}}) (ch:=[e,it]) I1 (λb ob hb q=>?_) (λb hb=>?_)
  . refine⟨.ref s.heap.objs.size,_,I2,rfl,⟨_,x,hTn,rfl,rfl,λys hy=>by rw[I.tuple_inj hy hq];exact hx⟩,⟨⟨_,by simpa using he2⟩,hst.1.at λo q=>(hs2.2 it (Ne.symm hei)).trans q⟩,λb hb=>?_⟩;rw[Ah (nT b hb)];exact(hf b hb).1
  . have hbe:b≠e:=λz=>hb (by simp[z]);have hbi:b≠it:=λz=>hb (by simp[z]);rcases Heap.get?_push_cases q with ⟨rfl,rfl⟩|q
    . exact hT2
    exact(hs2.2 b hbe).trans (hk b ob hbe hbi q)
  obtain⟨f0,f1,f2,f3,f4,f5⟩:=hf b hb;exact⟨by rw[Ah (nT b hb)];exact f0,f1,f2,f3,f4,f5⟩
 done:=by
  intro X hP hw hK hc i pins s σ H E I hf st hg;subst hP hw hK;obtain⟨xs,hq,hx⟩:=hg;obtain⟨its,rv,p,hz⟩:=I.tuple hq;obtain⟨⟨old,he⟩,hit⟩:=st;have hlen:its.toArray.size=i:=by rw[A0U,<- rv.length];exact hx
  have D:=am0 (prog:=X.prog) (w:=X.w) (A:=X.A.in1) (by simpa using I.ok.hd hc) it a hai its.toArray;rw[hlen] at D;refine wpAny_pyNext_enum_endD D he ⟨hit,p⟩ λh' hk=>⟨rfl,I.turnedL (t':=s.toks) (ch:=[e,it]) (λb o hb q=>hk b o (λz=>hb (by simp[z])) q) hf⟩
 self:=by intro A i s Q E st hQ;obtain⟨⟨old,he⟩,_⟩:=st;exact A49 he hQ
section
variable {X:Cx}{K:W.Frag}
def a95 (K:W.Frag)(vs:List V)(H:Hp)(R:It->Hp->Prop):Prop:=∃ a xs,vs=[.ref a]/\SqT K H a xs/\R (Ite K a) H
def aI2 (K:W.Frag)(ta:TA):TI:=fun σ H R=>ta σ H λvs H1=>a95 K vs H1 R
theorem Jt:bootBuiltins "enumerate" = some (.type "enumerate"):=PyProof.Rows.Boot.«enumerate»
theorem ao2 {e:Expr}{ta:TA}{p pos:Pos}{elts:List Expr}{ek:Nat}{epos:Pos}(hg:Gl X "enumerate")(hm:X.mg "enumerate" = none)(ha:PA X [e] ta)(hK:X.K=K:=by ac_nf)(hs:starEach [e] X.env=[(false,eval e X.env)]:=by ac_nf) :
  PI X (.Tuple elts ek epos) (.Call (.Name "enumerate" p) [e] [] pos) (aI2 K ta):=by
 subst hK;intro pins s σ H R I h;refine Call_ (J9 I hg hm Jt (A1K (thn (ha pos pins s σ H _ I h) λus s1 ⟨vs,H1,I1,r1,q1⟩=>?_) hs rfl));obtain⟨a,xs,rfl,hq,q⟩:=q1;obtain⟨u,rfl,ru⟩:=Vals.one r1
 cases ru;obtain⟨its,rv,ht,hz⟩:=I1.tuple hq;have hal:a<s1.heap.objs.size:=let ⟨_,q,_⟩:=ht;A06 q;refine Xp ht λh' he hit hk=>?_;refine A49 he ?_;refine⟨s1.heap.objs.size+1,[s1.heap.objs.size+1,s1.heap.objs.size],_,_,H1,rfl,I1.kept (t':=s1.toks) hk,a62 a s1.heap.objs.size (s1.heap.objs.size+1) (Nat.succ_ne_self _) (A0K hal) (A0K (A2D hal)),⟨⟨_,he⟩,hit⟩,λb hb=>?_,q⟩;rcases A0C.mp hb with rfl|hb
 . exact I1.fpOk (A2H _) (I1.hok.fresh (A2H _))
 have e:b=s1.heap.objs.size:=by simpa using hb
 subst e;exact I1.fpOk (A07 _) (I1.hok.fresh (A07 _))
end
section
variable {K:W.Frag}{σ:St}{H:Hp}
theorem i_ienum {ts:TA}{R:It->Hp->Prop}(k:ts σ H λvs H1=>a95 K vs H1 R):aI2 K ts σ H R:=k
theorem ac1 {xs:List V}{a:Addr}{n m:Nat}{tb:TS}{D:Ends}(h:SqT K H a xs)(Pv:Nat->St->Hp->Prop)(h0:Pv 0 σ H)(hG:∀ i σ' H',Pv i σ' H'->SqT K H' a xs)
  (hs:∀ i x σ' H' H2,xs[i]? = some x->Pv i σ' H'->Same H' H2->tb {D with nx:=Pv (i+1),ct:=Pv (i+1),bk:=D.nx} ((σ'.set n (some (.int i))).set m (some x)) H2) (hd:∀ σ' H',Pv xs.length σ' H'->D.nx σ' H') :
  a95 K [.ref a] H λJ H1=>ak0 (aG0 K 2 (Uw (M9 n) (Uw (M9 m) aL6))) tb D σ J H1:=by
 refine⟨a,xs,rfl,h,λi k σ' H'=>k=xs.length-i/\i<=xs.length/\Pv i σ' H',⟨xs.length,by simp,Nat.zero_le _,h0⟩,?_⟩;rintro i k σ' H' ⟨rfl,hi,p⟩;have g:=hG i σ' H' p
 by_cases hlt:i<xs.length
 . refine .inr ⟨⟨xs,xs[i],g,A05 hlt⟩,Pv (i+1),fun σ2 H2 p2=>⟨xs.length-(i+1),by omega,rfl,hlt,p2⟩,λv H2 y=>?_⟩;obtain⟨t,x,ht,rfl,rfl,hx⟩:=y;exact⟨t,_,rfl,SqT.of A9,rfl,.int i,[x],rfl,x,[],rfl,rfl,hs i x σ' H' _ (hx xs g) p (Same.upd ht)⟩
 have e:i=xs.length:=by omega
 subst e;exact .inl ⟨⟨xs,g,rfl⟩,hd σ' H' p⟩
theorem ao7 {ps:List (Str×Str)}{x:V}{n m:Nat}{tb:TS}{D:Ends}(h:Is K H (psD ps) x)(Pv:Nat->St->Hp->Prop)(h0:Pv 0 σ H)(hG:∀ i σ' H',Pv i σ' H'->Fz H H')
  (hs:∀ i p v σ' H' H2,ps[i]? = some p->Is K H2 (prD p) v->Pv i σ' H'->Same H' H2->tb {D with nx:=Pv (i+1),ct:=Pv (i+1),bk:=D.nx} ((σ'.set n (some (.int i))).set m (some v)) H2) (hd:∀ σ' H',Pv ps.length σ' H'->D.nx σ' H') :
  a95 K [x] H λJ H1=>ak0 (aG0 K 2 (Uw (M9 n) (Uw (M9 m) aL6))) tb D σ J H1:=by
 obtain⟨a,xs,rfl,hS,hL⟩:=Is.tup h;have hl:ps.length=xs.length:=by rw[<- IsL.length hL,A02]
 refine ac1 hS Pv h0 (λi σ' H' p=>(hG i σ' H' p).seq hS) (λi v σ' H' H2 hv p e=>?_) fun σ' H' p=>hd σ' H' (by rw[<- hl] at p;exact p);obtain ⟨d,e1,e2⟩:=IsL.get (IsL.fz ((hG i σ' H' p).trans e.fz) _ _ (Ko ps) hL) hv;rw[A08] at e1
 cases hn:ps[i]? with
 |none=>rw[hn] at e1;cases e1
 |some z=>
   rw[hn] at e1
   cases e1;exact hs i z v σ' H' H2 hn e2 p e
end
end L2
namespace L2
open PySem PySem.Spec PyProof.Rows
section
variable {X:Cx}{K:W.Frag}
section
variable {H:Hp}{Q:VK}{lo hi:Option Int}
theorem am1 {a b:Addr}{xs ys:List V}(h1:SqT K H a xs)(h2:SqT K H b ys)(h:xs.length+ys.length<=sizeLine)(k:∀ p H',Same H H'->SqT K H' p (xs++ys)->Q (.ref p) H'):X3 K (.ref a) (.ref b) H Q:=by
 by_cases hx:xs=[]
 . subst hx;exact .inr (.inr (.inr (.inr ⟨a,b,ys,rfl,rfl,h1,h2,k b H (Same.refl _) h2⟩)))
 refine .inr (.inr (.inr (.inl ⟨a,b,xs,ys,rfl,rfl,h1,h2,hx,h,λe=>?_,λ_ p hp=>k p _ (Same.upd hp) (SqT.of A9)⟩)));subst e;exact k a H (Same.refl _) (by rw[A22];exact h1)
end
end
def jsD (js:List Nat):PyData:=.tuple (js.map λ(j:Nat)=>PyData.int (j:Int))
theorem al3 (js:List Nat):frz (jsD js)=true:=by unfold jsD;simp only[frz];exact Jf _ (λ_=>by simp[frz]) js
structure Trl (ps:List (Str×Str))(x:Str)(js:List Nat)(y:Str)(os:List Str):Prop where
 len:os.length=js.length
 hd:(os++[y])[0]? = some x
 ed:∀(i j:Nat),js[i]? = some j->∃ a b,(os++[y])[i]? = some a/\(os++[y])[i+1]? = some b/\ps[j]? = some (a,b)
 nd:(os++[y]).Nodup
theorem Trl.nil (ps:List (Str×Str))(x:Str):Trl ps x [] x []:=⟨rfl,rfl,λi j h=>by simp at h,by simp⟩
theorem Trl.snoc {ps:List (Str×Str)}{x y z:Str}{js:List Nat}{os:List Str}{j:Nat}(h:Trl ps x js y os)(hj:ps[j]? = some (y,z))(hz:z∉os++[y]):Trl ps x (js++[j]) z (os++[y]):=by
 refine⟨by simp[h.len],?_,λi k hk=>?_,?_⟩
 . rw[List.getElem?_append_left (by simp)];exact h.hd
 . by_cases hi:i<js.length
   . rw[A1V hi] at hk;obtain⟨a,b,h1,h2,h3⟩:=h.ed i k hk;have l:=h.len;refine⟨a,b,?_,?_,h3⟩
     . rw[List.getElem?_append_left (by simp;omega)];exact h1
     rw[List.getElem?_append_left (by simp;omega)];exact h2
   have hi':i=js.length:=by have:=(A00.mp hk).1;rw[A0T,A27] at this;omega
   subst hi';have e:k=j:=by simpa using hk.symm
   subst e;have l:=h.len;refine⟨y,z,?_,?_,hj⟩
   . rw[List.getElem?_append_left (by simp;omega),<- l];simp
   rw[<- l];simp
 rw[A1S];refine⟨h.nd,by simp,λa ha b hb e=>?_⟩;have:b=z:=by simpa using hb
 subst this;subst e;exact hz ha
structure WyI (ps:List (Str×Str))(x:Str)(ks ws:List Str):Prop where
 nd:ks.Nodup
 has:x∈ks
 way:∀ y∈ks,y=x\/Way ps x y
 line:∀ z∈ws,z∈ks
 shut:∀ z∈ks,z∉ws->∀ y,(z,y)∈ps->y∈ks
 few:ws.length<=ks.length
theorem WyI.le {ps:List (Str×Str)}{x:Str}{ks ws:List Str}(h:WyI ps x ks ws):ks.length<=ps.length+1:=by
 have:=Cc (ys:=x :: ps.map (·.2)) h.nd λy hy=>by
  rcases h.way y hy with e|e
  . exact e ▸ A0M
  exact A0B _ e.right
 rwa[A0N,A02] at this
structure WyJ (ps:List (Str×Str))(x here:Str)(ks ws gs ms:List Str)(i:Nat):Prop where
 nd:gs.Nodup
 way:∀ y∈gs,y=x\/Way ps x y
 line:∀ z∈ms,z∈gs
 keep:∀ z∈ks,z∈gs
 keepL:∀ z∈ws,z∈ms
 new:∀ z∈gs,z∈ks\/z∈ms
 seen:∀ j<i,∀ y,ps[j]? = some (here,y)->y∈gs
 len:gs.length+ws.length=ks.length+ms.length
theorem WyJ.le {ps:List (Str×Str)}{x here:Str}{ks ws gs ms:List Str}{i:Nat}(h:WyJ ps x here ks ws gs ms i):gs.length<=ps.length+1:=by
 have:=Cc (ys:=x :: ps.map (·.2)) h.nd λy hy=>by
  rcases h.way y hy with e|e
  . exact e ▸ A0M
  exact A0B _ e.right
 rwa[A0N,A02] at this
theorem WyJ.step {ps:List (Str×Str)}{x here:Str}{ks ws gs ms:List Str}{i:Nat}{p:Str×Str}(h:WyJ ps x here ks ws gs ms i)(hh:here∈gs)(hp:ps[i]? = some p)(h1:p.1=here)(h2:p.2∉gs):WyJ ps x here ks ws (gs++[p.2]) (ms++[p.2]) (i+1):=by
 have hm:(here,p.2)∈ps:=by rw[<- h1];exact A04 hp
 refine⟨?_,λy hy=>?_,λz hz=>?_,λz hz=>A0X _ (h.keep z hz),λz hz=>A0X _ (h.keepL z hz),λz hz=>?_,λj hj y e=>?_,?_⟩
 . rw[A1S];refine⟨h.nd,by simp,λa ha b hb e=>?_⟩;have:b=p.2:=by simpa using hb
   subst this;subst e;exact h2 ha
 . rcases A0G.mp hy with hy|hy
   . exact h.way y hy
   have:y=p.2:=by simpa using hy
   subst this;rcases h.way here hh with rfl|hw
   . exact .inr (.one hm)
   exact .inr (hw.snoc hm)
 . rcases A0G.mp hz with hz|hz
   . exact A0X _ (h.line z hz)
   exact A18 _ hz
 . rcases A0G.mp hz with hz|hz
   . rcases h.new z hz with e|e
     . exact .inl e
     exact .inr (A0X _ e)
   exact .inr (A18 _ hz)
 . by_cases hji:j=i
   . subst hji;rw[hp] at e
     cases e;exact List.mem_append_right _ (by simp)
   exact A0X _ (h.seen j nofun y e)
 rw[A0T,A0T,A27];have:=h.len;omega
theorem WyJ.skip {ps:List (Str×Str)}{x here:Str}{ks ws gs ms:List Str}{i:Nat}{p:Str×Str}(h:WyJ ps x here ks ws gs ms i)(hp:ps[i]? = some p)(h1:p.1=here->p.2∈gs):WyJ ps x here ks ws gs ms (i+1):=by
 refine⟨h.nd,h.way,h.line,h.keep,h.keepL,h.new,λj hj y e=>?_,h.len⟩
 by_cases hji:j=i
 . subst hji;rw[hp] at e
   cases e;exact h1 rfl
 exact h.seen j nofun y e
theorem WyJ.done {ps:List (Str×Str)}{x here:Str}{ks ws gs ms:List Str}(I:WyI ps x ks (here :: ws))(h:WyJ ps x here ks ws gs ms ps.length):WyI ps x gs ms:=by
 refine⟨h.nd,h.keep x I.has,h.way,h.line,λz hz hm y hy=>?_,?_⟩
 . by_cases e:z=here
   . subst e;obtain⟨j,hj,ej⟩:=A2L hy;exact h.seen j hj y (by rw[A05 hj,ej])
   have hz':z∈ks:=by
    rcases h.new z hz with q|q
    . exact q
    exact absurd q hm
   refine h.keep y (I.shut z hz' (λq=>?_) y hy);rcases A0C.mp q with q|q
   . exact e q
   exact hm (h.keepL z q)
 have:=h.len;have:=I.few;rw[A0N] at this;omega
theorem WyI.all {ps:List (Str×Str)}{x:Str}{ks:List Str}(h:WyI ps x ks []){y:Str}(g:Way ps x y):y∈ks:=
 Way.shut (S:=λy=>y∈ks) (λy hy=>h.shut x h.has (by simp) y hy) (λz y hz hy=>h.shut z hz (by simp) y hy) g
theorem at3 {ns:List Str}{as:List Addr}{z:Str}{a:Addr}(hz:z∉ns)(h:ns.length=as.length):Fs (Jh ns as) (Sum.inr z:Key) (.ref a)=Jh (ns++[z]) (as++[a]):=by
 rw[R8 h];unfold Fs;rw[A0J];rw[A1Z];rintro⟨kv,hkv,e⟩;obtain⟨p,hp,rfl⟩:=A0E.mp hkv;have e':(Sum.inr p.1:Key)=Sum.inr z:=of_decide_eq_true e;have e2:p.1=z:=by injection e'
 exact hz (e2 ▸ (A35 hp).1)
theorem Hn:∀ {ns:List Str} {as:List Addr} {z:Str},z∉ns->Dj (Jh ns as) (Sum.inr z:Key)=none
 | [],_,_,_=>rfl
 |n :: ns,[],_,_=>rfl
 |n :: ns,a :: as,z,h=>by
   show Dj ((Sum.inr n,V.ref a) :: Jh ns as) _=_;rw[B6 (by intro q;injection q with q;exact h (q ▸ A0M))]
   exact Hn λq=>h (A0B _ q)
section
variable {K:W.Frag}{σ:St}{H:Hp}{Q:VK}{td ty:TE}
def ag6 (ty:TE)(σ:St)(x:V)(H1:Hp)(Q:VK):Prop:=∃ a,x = .ref a/\IsD H1 a/\ty σ H1 λy H2=>∃ o,DGet H2 a y o/\Q (o.getD .non) H2
theorem i_dget1 (k:td σ H λx H1=>ag6 ty σ x H1 Q):aj0 td ty σ H Q:=k
theorem az4 {a:Addr}{kvs:List (Key×V)}(h:H a=some (.dK kvs))(k:ty σ H λy H2=>∃ o,DGet H2 a y o/\Q (o.getD .non) H2):ag6 ty σ (.ref a) H Q:=⟨a,rfl,.inl ⟨kvs,.inl h⟩,k⟩
theorem aI1 {a:Addr}{kvs:List (Key×V)}{z:Str}(h:H a=some (.dK kvs))(k:Q ((Dj kvs (Sum.inr z:Key)).getD .non) H):∃ o,DGet H a (.str z) o/\Q (o.getD .non) H:=⟨_,DGet.k (k:=Sum.inr z) h,k⟩
theorem af7 {r:Addr}{ks:List Str}{ts:List Addr}{z:Str}(h:H r=some (.dK (Jh ks ts)))(hl:ts.length=ks.length)(k:Q (.bl (!decide (z∈ks))) H):Xf K true (.str z) (.ref r) H Q:=by
 refine .inr (.inr (.inl ⟨r,Dj (Jh ks ts) (Sum.inr z:Key),rfl,DGet.k (k:=Sum.inr z) h,?_⟩))
 by_cases e:z∈ks
 . obtain⟨i,hi,ei⟩:=A2L e
   have:(Dj (Jh ks ts) (Sum.inr z:Key)).isSome=true:=by
    suffices g:∀(ks:List Str) (ts:List Addr),ts.length=ks.length->z∈ks->(Dj (Jh ks ts) (Sum.inr z:Key)).isSome=true from g ks ts hl e
    intro ks
    induction ks with
    |nil=>intro ts _ h;cases h
    |cons c ks ih=>
      intro ts hl hm
      cases ts with
      |nil=>cases hl
      |cons t ts=>
        by_cases hc:c=z
        . subst hc;show(Dj ((Sum.inr c,V.ref t) :: Jh ks ts) _).isSome=true;rw[Ba rfl];rfl
        show(Dj ((Sum.inr c,V.ref t) :: Jh ks ts) _).isSome=true;rw[B6 (by intro q;injection q with q;exact hc q)]
        refine ih ts (by simpa using hl) ?_;rcases A0C.mp hm with q|q
        . exact absurd q.symm hc
        exact q
   rw[this];simpa[e] using k
 rw[Hn e];simpa[e] using k
theorem i_andV {ta tb:TE}(k:ta σ H λx H1=>∃ c,x = .bl c/\if c=true then tb σ H1 Q else Q (.bl false) H1):aF8 ta tb σ H Q:=k
theorem ap4 {a:Addr}{bs:List Bool}(h:SqL K H a (bs.map V.bl))(k:Q (.bl (bs.all id)) H):Xf K true (.bl false) (.ref a) H Q:=.inl ⟨a,_,rfl,.inl h,rfl,by
  rw[A1B];intro v h;obtain⟨n,_,rfl⟩:=A0E.mp h;rfl,by
  have e:(!inV (.bl false) (bs.map V.bl))=bs.all id:=by
   clear h k;unfold inV
   induction bs with
   |nil=>rfl
   |cons b bs ih=>
     rw[A0H,A21,List.all_cons,Bool.not_or,ih]
     cases b<;>rfl
  show Q (.bl (!inV (.bl false) (bs.map V.bl))) H;rw[e];exact k⟩
end
def Keep (as:List Addr)(H H':Hp):Prop:=(∀ b o,b∉as->H b=some o->H' b=some o)/\∀ a∈as,∀ u,Rd H a u->Rd H' a u
theorem Keep.refl (as:List Addr)(H:Hp):Keep as H H:=⟨λ_ _ _ h=>h,λ_ _ _ h=>h⟩
theorem Keep.freeze {as:List Addr}{H:Hp}{a:Addr}{u:HO}{o:Obj}(ha:a∈as)(h:H a=some u)(hu:∀ o' u',u ≠ .frz o' u'):Keep as H (upd H a (.frz o u)):=by
 refine⟨λb q hb e=>?_,λb hb w e=>?_⟩
 . have hne:b≠a:=λz=>by subst z;exact hb ha
   rw[Ah hne];exact e
 by_cases hba:b=a
 . subst hba;rcases e with e|⟨o',e⟩
   . rw[h] at e
     cases e;exact .inr ⟨o,A9⟩
   rw[h] at e
   cases e;exact absurd rfl (hu _ _)
 rcases e with e|⟨o',e⟩
 . exact .inl (by rw[Ah hba];exact e)
 exact .inr ⟨o',by rw[Ah hba];exact e⟩
theorem Keep.rd {as:List Addr}{H H':Hp}(k:Keep as H H'){a:Addr}{u:HO}(h:Rd H a u):Rd H' a u:=by
 by_cases ha:a∈as
 . exact k.2 a ha u h
 rcases h with h|⟨o,h⟩
 . exact .inl (k.1 _ _ ha h)
 exact .inr ⟨o,k.1 _ _ ha h⟩
theorem Keep.fz {as:List Addr}{H H':Hp}(k:Keep as H H'):Fz H H':=λa xs h=>k.rd h
structure TabR (H:Hp)(r:Addr)(ns:List Str)(as:List Addr)(R:Str->Str->Prop):Prop where
 len:as.length=ns.length
 top:Rd H r (.dK (Jh ns as))
 row:∀(i:Nat) (z:Str) (a:Addr),ns[i]? = some z->as[i]? = some a->∃ ks:List Str,Rd H a (.dK (Kj ks))/\ks.Nodup/\(∀ y∈ks,y∈ns)/\∀ y,y∈ks↔R z y
theorem Tab.toR {H:Hp}{r:Addr}{ns:List Str}{as:List Addr}{R:Str->Str->Prop}(h:Tab H r ns as R):TabR H r ns as R:=
 ⟨h.len,.inl h.top,λi z a hz ha=>let ⟨ks,h1,h2⟩:=h.row i z a hz ha;⟨ks,.inl h1,h2⟩⟩
theorem TabR.at {H:Hp}{r:Addr}{ns:List Str}{as:List Addr}{R:Str->Str->Prop}(h:TabR H r ns as R){x:Str}(hx:x∈ns):∃(i:Nat) (a:Addr),ns[i]? = some x/\as[i]? = some a:=by
 obtain⟨i,hi,e⟩:=A2L hx;have hi':i<as.length:=by rw[h.len];exact hi
 exact⟨i,as[i],by rw[A05 hi,e],A05 hi'⟩
section
variable {K:W.Frag}{σ:St}{H:Hp}{Q:VK}{r:Addr}{ns:List Str}{as:List Addr}{R:Str->Str->Prop}
theorem aB3 {a:Addr}{kvs:List (Key×V)}{z:Str}{v:V}(h:Rd H a (.dK kvs))(e:Dj kvs (Sum.inr z:Key)=some v)(k:Q v H):Ui K (.ref a) (.str z) H Q:=.inr ⟨a,v,rfl,.inl ⟨kvs,Sum.inr z,h,rfl,e.symm⟩,k⟩
theorem al6 {x:Str}{i:Nat}{a:Addr}(h:TabR H r ns as R)(hn:ns.Nodup)(hx:ns[i]? = some x)(ha:as[i]? = some a)(k:Q (.ref a) H):Ui K (.ref r) (.str x) H Q:=aB3 h.top (Fy hn hx ha) k
theorem Su {a:Addr}{ks:List Str}{y:Str}(h:Rd H a (.dK (Kj ks)))(k:Q (.bl (!decide (y∈ks))) H):Xf K true (.str y) (.ref a) H Q:=by
 refine .inr (.inr (.inl ⟨a,Dj (Kj ks) (Sum.inr y:Key),rfl,.inl ⟨_,Sum.inr y,h,rfl,rfl⟩,?_⟩));rw[Qm]
 by_cases e:y∈ks
 . simpa[e] using k
 simpa[e] using k
theorem ao3 {as:List Addr}{a:Addr}{kvs:List (Key×V)}{R:It->Hp->Prop}(h:Rd H a (.dK kvs))(ha:a∈as)(k:∀ o H',Keep as H H'->H' a=some (.frz o (.dK kvs))->R (Itd a o kvs) H'):Ge K (.ref a) H R:=by
 rcases h with h|⟨o,h⟩
 . exact aM7 h λo=>k o _ (Keep.freeze ha h λ_ _ z=>by cases z) A9
 exact aN5 h (k o H (Keep.refl _ _) h)
end
def unB (ps:List (Str×Str))(x y:Str):Bool:=!Be ps x y && !Be ps y x
def unR (ns:List Str)(ps:List (Str×Str))(i:Nat):List (Str×Str):=((ns.drop (i+1)).filter λy=>unB ps (ns.getD i "") y).map λy=>(ns.getD i "",y)
def unK (ns:List Str) (ps:List (Str×Str)) (k:Nat):List (Str×Str):=(List.range k).flatMap (unR ns ps)
def unP (ns:List Str)(ps:List (Str×Str)):List (Str×Str):=unK ns ps ns.length
theorem Wg {α β:Type}(f:α->List β)(n:Nat)(h:∀ a,(f a).length<=n):∀ l:List α,(l.flatMap f).length<=l.length*n
 | []=>by simp
 |a :: l=>by rw[A3J,A0T,A0N,A3Y];have:=Wg f n h l;have:=h a;omega
theorem av1 (ns:List Str)(ps:List (Str×Str))(i:Nat):(unR ns ps i).length<=ns.length:=by unfold unR;rw[A02];exact A0L (A1L _ _) (by rw[A1M];omega)
theorem aq7 (ns:List Str)(ps:List (Str×Str))(k:Nat):(unK ns ps k).length<=k*ns.length:=by have:=Wg (unR ns ps) ns.length (av1 ns ps) (List.range k);rwa[A1R] at this
theorem ad6 (ns:List Str)(ps:List (Str×Str))(k:Nat):unK ns ps (k+1)=unK ns ps k++unR ns ps k:=by unfold unK;rw[List.range_succ,List.flatMap_append];simp
theorem as7 {ns:List Str}{ps:List (Str×Str)}{k:Nat}{p:Str×Str}(hk:k<=ns.length)(h:p∈unK ns ps k):p.1∈ns/\p.2∈ns/\unB ps p.1 p.2=true:=by unfold unK at h;rw[A4G] at h;obtain⟨i,hi,h⟩:=h;have hi:=A2A.mp hi;unfold unR at h;obtain⟨y,hy,rfl⟩:=A0E.mp h;rw[A15] at hy;refine⟨?_,A2Y hy.1,hy.2⟩;exact A04 (Fw (i:=i) nofun)
theorem Uj {ns:List Str}{ps:List (Str×Str)}{p:Str×Str}(h:p∈unP ns ps):p.1∈ns/\p.2∈ns/\unB ps p.1 p.2=true:=as7 (A07 _) h
section
variable {K:W.Frag}{H:Hp}{σ:St}
theorem ad0 {ns:List Str}{i:Nat}(h:i<=ns.length):Tp (ns.map V.str) (some ((i:Nat):Int)) none=(ns.drop i).map V.str:=by rw[Rj nofun (by rw[A02];omega),List.map_drop];rfl
end
section
variable {prog:Program}{w:World}{A:Around}{E:Value->Shared->Prop}{s:Shared}
end
section
variable {X:Cx}{K:W.Frag}
end
section
variable {K:W.Frag}{σ:St}{H:Hp}
end
section
variable {K:W.Frag} {H:Hp} {Q:VK}
end
theorem IsL.bl_eq {α:Type}{K:W.Frag}{H:Hp}{f:α->Bool}:∀ {as:List α} {vs:List V},IsL K H (as.map λa=>PyData.bool (f a)) vs->vs=(as.map f).map V.bl
 | [],vs,h=>by simp only[List.map_nil,IsL] at h;exact h
 |n :: ns,vs,h=>by simp only[List.map_cons,IsL,Is] at h;obtain⟨v,r,rfl,rfl,e3⟩:=h;rw[IsL.bl_eq e3];rfl
theorem af9 {α:Type}{K:W.Frag}{H:Hp}{σ:St}{J:It}{xs:List V}{G:Hp->Prop}{g:TG}{te:TE}{Q:VK}{k:Nat}{js:List Nat}(hw:Gq J xs G)(as:List α)(hl:as.length=xs.length)(f:α->Bool)(hz:xs.length<=1000000)(hG:∀ H',Same H H'->G H')
  (hs:∀(i:Nat) a v H1 (R:VK),as[i]? = some a->xs[i]? = some v->Same H H1->(∀ H2,Same H1 H2->R (.bl (f a)) H2)->g v (List.replicate k none++Pp σ js) H1 fun σ2 H2=>te σ2 H2 R)
  (hd:∀ p H',H p=none->Same H H'->SqL K H' p ((as.map f).map V.bl)->Q (.ref p) H'):Ov k js g ag2 te σ J H Q:=by
 refine Hx (K:=K) hw as hl (λ_=>true) (λa=>PyData.bool (f a)) (λ_=>rfl) hz hG (λi a v H1 R R' ha hv e hR hR'=>?_) (λp ys H' hp e h hL=>?_)
 . exact hs i a v H1 R ha hv e λH2 e2=>hR rfl _ H2 e2 af6
 rw[Dq] at hL;have:=IsL.bl_eq hL;subst this;exact hd p H' hp e (SqL.of h)
section
variable {P:Program}{w:World}{κ:Type}[DecidableEq κ]{knd:KeyKind P w κ}{A:Around}{E:Value->Shared->Prop}{s:Shared}
end
section
variable {X:Cx}{pins:List (Addr×Obj)}{σ:St}{H:Hp}{s:Shared}{A:Around}
end
section
variable {prog:Program}{w:World}{A:Around}{E:Value->Shared->Prop}{s:Shared}
end
section
variable {X:Cx}{K:W.Frag}
end
def inS (ns:List Str):Key->Bool
 |.inr z=>decide (z∈ns)
 |.inl _=>false
theorem ab9 (ns:List Str)(z:Str)(k:Key):inS (ns++[z]) k=(inS ns k||decide (k=Sum.inr z)):=by
 cases k with
 |inl i=>simp[inS]
 |inr y=>simp only[inS,List.mem_append,List.mem_singleton,Bool.decide_or];congr 1;simp
theorem Uu (ms:List Str)(z:Str):(Dh [] (ms++[z])).length=if inS ms (Sum.inr z)=true then(Dh [] ms).length else(Dh [] ms).length+1:=by
 unfold Dh;rw[List.foldl_append];show(a91 (Dh [] ms) z).length=_;unfold a91;have e:(z∈Dh [] ms)↔z∈ms:=by rw[mem_addAll];simp
 by_cases h:z∈ms
 . rw[if_pos (e.mpr h),if_pos (by simpa[inS] using h)];rfl
 rw[if_neg (λq=>h (e.mp q)),if_neg (by simpa[inS] using h),List.length_append,List.length_singleton];rfl
theorem Sw:∀ ms:List Str,(Dh [] ms).length<=ms.length:=λms=>by
 have g:=Cc (ys:=ms) (Fl (ms:=ms) (ks:=[]) (by simp)) λz hz=>by
  rcases mem_addAll.mp hz with h|h
  . cases h
  exact h
 exact g
section
variable {P:Program}{w:World}{A:Around}{R:Result->Shared->Prop}{it:Addr}{fp wr:List Addr}{G:Array GenState->Array GenState->Prop}{n:Nat}{PV:Nat->Value->Prop}{St:Nat->Shared->Prop}
theorem a46 (z:Str)(t:Tok):(Ao P w).is (Sum.inr z) (.str z t)=true:=by show Re (Sum.inr z) (.str z t)=true;simp[Re,Value.isStrOf]
theorem ad2 (W:WalksS P w A.in1 it fp wr G n PV St)(D:Addr)(hD:D∉fp)(ns:List Str)(hval:∀ i v,PV i v->∃ z t,ns[i]? = some z/\v = .str z t)(hb:n+1<scanBound)(hn:ns.length=n) :
  ∀(k i:Nat) (s:Shared),n-i=k->i<=n->St i s->s.heap.SetOf (Ao P w) D (inS (ns.take i)) (Dh [] (ns.take i)).length ->
   (∀ s',Moved (D :: wr) G s s'->s'.heap.SetOf (Ao P w) D (inS ns) (Dh [] ns).length->R (.ok (.ret .none)) s') ->
   codeAny (model P w) A (.builtin "set.update.loop" ⟨[.ref D,.ref it],[]⟩) R s:=by
 have hDw:D∉wr:=λh=>hD (W.sub _ h);have sub:∀ b∈wr,b∈D :: wr:=λb h=>.tail _ h;have stays:∀ {s s':Shared} {f:Key->Bool} {m:Nat},Moved wr G s s'->s.heap.SetOf (Ao P w) D f m->s'.heap.SetOf (Ao P w) D f m:=λhm ⟨o,es,ep,t,ho,r⟩=>⟨o,es,ep,t,hm.heap D _ hDw ho,r⟩;intro k
 induction k with
 |zero=>
   intro i s hk hi st hS hR;obtain rfl:i=n:=by omega
   rw[A4K nofun] at hS;refine A3X F.entry_set_update_loop ?_;rw[A3R F.plain_set_update_loop];refine A03 (m:=pyNext (.ref it)) (W.done s _ _ st λs' hm=>?_);show wpAny _ _ (ret Value.none) _ _ _;exact A09 (hR s' (hm.mono sub) (stays hm hS))
 |succ k ih=>
   intro i s hk hi st hS hR;have hlt:i<n:=by omega
   refine A3X F.entry_set_update_loop ?_;rw[A3R F.plain_set_update_loop];refine A03 (m:=pyNext (.ref it)) (W.item i s _ _ hlt st λv s' hv st' hm=>?_);obtain⟨z,t,hz,rfl⟩:=hval i v hv;have ht:ns.take (i+1)=ns.take i++[z]:=by rw[A0S,hz];rfl
   refine A03 (m:=holding _ (setAdd D (.str z t))) (A20 ?_);unfold setAdd;refine A20 (A03 ((Ao P w).pyHash (a46 z t) ?_));have hle:=Sw (ns.take i);rw[A14] at hle;refine wpAny_setAddHashed_of (s:={s' with toks:=s'.toks+1}) (a46 z t) rfl (show s'.heap.SetOf _ _ _ _ from stays hm hS) nofun λh' hsb hS2=>?_
   have hS3:h'.SetOf (Ao P w) D (inS (ns.take (i+1))) (Dh [] (ns.take (i+1))).length:=by
    rw[ht,Uu,show inS (ns.take i++[z])=λk'=>inS (ns.take i) k'||decide (k'=Sum.inr z) from funext (ab9 _ _)]
    exact hS2
   refine A09 ⟨A4D F.plain_set_update_loop _,ih (i+1) _ nofun hlt (W.frame _ s' _ _ st' (A2H _) λb hb o e=>?_) hS3 λs2 hm2 hS4=>?_⟩
   . have hbD:b≠D:=λq=>hD (q ▸ hb);exact(hsb.2 b hbD).trans e
   refine hR s2 (Moved.trans W.gtrans ((hm.mono sub).then_heap (A2H _) λb o hb e=>?_) hm2) hS4;have hbD:b≠D:=λq=>hb (by rw[q];exact A0M);exact(hsb.2 b hbD).trans e
end
theorem Ua:isSubtype (.type "tuple") (.type "set")=pure false:=by rw[isSubtype_type];kernel_rfl
theorem Sx:isSubtype (.type "tuple") (.type "frozenset")=pure false:=by rw[isSubtype_type];kernel_rfl
section
variable {prog:Program}{w:World}{A:Around}{E:Value->Shared->Prop}{s:Shared}
def M7 (led:Bool):Obj:={cls:=.type "set",dict:=none,data:=.set #[] 0 (.fresh 0 0 led)}
def aK0 (prog:Program)(w:World)(s:Shared)(ns:List Str)(h':Heap):Prop:=h'.SetOf (Ao prog w) s.heap.objs.size (inS ns) (Dh [] ns).length/\∀ b o,b<s.heap.objs.size->s.heap.get? b=some o->h'.get? b=some o
set_option maxHeartbeats 3200000 in
theorem Yd {t:Addr}{its:List Value}{ns:List Str}{Q:Value->Shared->Prop}(hh:A.handled=none)(ht:s.heap.IsTuple t its.toArray)(hv:Vals (ns.map V.str) its)(hb:ns.length+1<scanBound)
  (h:∀(h':Heap) (k:Nat),aK0 prog w s ns h'->Q (.ref s.heap.objs.size) {s with heap:=h',toks:=k}):wpAny (model prog w) A (call (.type "set") [.ref t]) Q E s:=by
 have hlen:its.length=ns.length:=by rw[<- hv.length,A02]
 obtain⟨c,tl,m1⟩:=F.called_set.mro;have m2:=F.called_set.made;have m3:=F.called_set.sub;have m4:=F.called_set.notType;have m5:=F.called_set.canCreate;have m6:=F.typeCall_set_1 (.ref t);refine A3I (codeAny_of_tree (show wpAny _ _ (callAny (.type "set") _) _ _ _ from ?_));refine A09 ⟨A5E _ (by decide +kernel),A3X F.entry_type_call ?_⟩;rw[Around.under_plain (weight_type_call_type "set" [Value.ref t] []) rfl]
 repeat (any_goals (first | assumption | wp_step))
 refine A34 (code_set_new_1 (Value.ref t) (E:=E) (Q₁:=λx s₁=>∃ led:Bool,x = .ref s.heap.objs.size/\s₁={s with heap:=s.heap.push (M7 led)}) λled=>⟨led,rfl,rfl⟩) λr s₁ hr=>?_
 cases r with
 |error e=>exact hr
 |ok fl=>
   cases fl with
   |ret x=>
     obtain⟨led,rfl,rfl⟩:=hr;have hN:(s.heap.push (M7 led)).get? s.heap.objs.size=some (M7 led):=A0D _ rfl;have hT:Shared.TypeIs {s with heap:=s.heap.push (M7 led)} (.ref s.heap.objs.size) "set":=⟨_,hN,rfl⟩
     have n1:=F.called_set.init.lookup;have n2:=F.called_set.init.bind (.ref s.heap.objs.size)
     repeat (any_goals (first | assumption | wp_step))
     refine A34 (A4Y (R:=wants (λr s₂=>r = .none/\∃ h' k,s₂={s with heap:=h',toks:=k}/\aK0 prog w s ns h') E) F.called_set.init.plain F.entry_set_init (check_set_init_1 hT ?_)) λr₂ s₂ hr₂=>?_
     . obtain⟨⟨oc,od,odt,osl⟩,g1,g2,nl,g3⟩:=id ht;simp only at g2 g3;subst g2 g3;have g4:(s.heap.push (M7 led)).get? t=some {cls:=.type "tuple",dict:=od,data:=.seq its.toArray nl,slots:=osl}:=A01 _ g1;have q1:=Ua;have q2:=Sx;have q3:(Value.type "tuple" == Value.type "dict")=false:=by decide
       have ht1:(s.heap.push (M7 led)).IsTuple t its.toArray:=⟨_,g4,rfl,nl,rfl⟩;unfold Builtin.«set.__init__» noKeywords Builtin.Frozenset.updateFrom;generalize hPI:pyIter=PI
       wp_walk
       subst hPI;refine A2Q ht1 (A03 (wpAny_runValue ?_));have htl:t<s.heap.objs.size:=A06 g1;have hz:(s.heap.push (M7 led)).objs.size=s.heap.objs.size+1:=A1U ..;refine ad2 ((Walks.tuple (by simp[hh]) _ t (by rw[hz];exact Nat.ne_of_lt (Nat.lt_succ_of_lt htl)) its.toArray).toS) s.heap.objs.size (by rw[hz];simp only[List.mem_cons,List.not_mem_nil,or_false,not_or];exact⟨Nat.ne_of_lt (Nat.lt_succ_self _),Nat.ne_of_gt htl⟩) ns (λi v hv'=>?_) (by rw[List.size_toArray];omega) (by rw[List.size_toArray];omega) _ 0 _ rfl (Nat.zero_le _) ⟨⟨_,Heap.get?_push_size _ rfl,rfl,rfl⟩,ht1.push _⟩ ?_ ?_
       . have hv2:its[i]? = some v:=by rw[<- A2T];exact hv'
         have hi:i<ns.length:=by have:=(A00.mp hv2).1;omega
         obtain⟨u,hu,ru⟩:=hv.get (i:=i) (x:=.str ns[i]) (by rw[A08,A05 hi];rfl);rw[hv2] at hu
         cases hu;obtain⟨k,rfl⟩:=ru;exact⟨_,k,A05 hi,rfl⟩
       . have e:inS (ns.take 0)=λ_=>false:=funext λk=>by cases k<;>simp[inS]
         rw[e];exact⟨M7 led,#[],0,.fresh 0 0 led,Heap.get?_push_of_some _ hN,⟨rfl,rfl,rfl⟩,rfl,(λe he=>by simp at he),(λk=>by simp),by simp[scanBound],rfl,rfl⟩
       intro s' hm hS';obtain⟨h',g',d',k',os'⟩:=s';have eg:g'=s.gens:=hm.gens;have ed:d'=s.drawn:=hm.drawn;have eo:os'=s.os:=hm.os;subst eg ed eo;refine A09 ?_;show wpAny _ _ (ret Value.none) _ _ _;refine A09 ⟨rfl,h',k',rfl,hS',λb o hb e=>hm.heap b o ?_ (A01 _ (A01 _ e))⟩;rw[hz];simp only[List.mem_cons,List.not_mem_nil,or_false,not_or];exact⟨A0K hb,A0K (A2D hb)⟩
     cases r₂ with
     |error e=>exact hr₂
     |ok fl₂=>
       cases fl₂ with
       |ret r=>
         obtain⟨rfl,h',k,rfl,hS⟩:=hr₂
         repeat (any_goals (first | assumption | wp_step))
         exact h _ _ hS
       |_=>exact hr₂.elim
   |_=>exact hr.elim
end
section
variable {X:Cx}{K:W.Frag}
def Z3 (K:W.Frag):List V->Hp->VK->Prop:=λvs H Q=>∃ a ns,vs=[.ref a]/\SqT K H a (ns.map V.str)/\ns.length<=1000/\Q (.int ((Dh [] ns).length:Nat)) H
theorem Z7 {e:Expr}{ta:TA}{p p2 pos pos2:Pos}(hc:X.A.handled=none)(hg:Gl X "len")(hm:X.mg "len" = none)(hg2:Gl X "set")(hm2:X.mg "set" = none)(ha:PA X [e] ta)(hK:X.K=K:=by ac_nf)
  (hs:starEach [e] X.env=[(false,eval e X.env)]:=by ac_nf) (hs2:starEach [.Call (.Name "set" p2) [e] [] pos2] X.env=[(false,eval (.Call (.Name "set" p2) [e] [] pos2) X.env)]:=by ac_nf) :
  PE X (.Call (.Name "len" p) [.Call (.Name "set" p2) [e] [] pos2] [] pos) (tCB (Z3 K) ta):=by
 subst hK;intro pins s σ H Q I h;refine A1H (J9 I hg hm PyProof.Rows.Boot.«len» ?_ ∅ ∅);refine A3L ?_ hs2 rfl;rw[hs2];show wpAny _ _ (spliced ((false,eval (.Call (.Name "set" p2) [e] [] pos2) X.env) :: backTo pos [])) _ _ s;refine A2N ?_;refine A1H (J9 I hg2 hm2 PyProof.Rows.Boot.«set» ?_ ∅ ∅);refine A1K (thn (ha pos2 pins s σ H _ I h) λus s1 ⟨vs,H1,I1,r1,q1⟩=>?_) hs rfl;obtain⟨a,ns,rfl,hq,hz,q⟩:=q1;obtain⟨u,rfl,ru⟩:=Vals.one r1
 cases ru;obtain⟨its,rv,ht,hz2⟩:=I1.tuple hq;refine Yd hc ht rv (by unfold scanBound;omega) λh' k hS=>?_;obtain⟨hS1,hS2⟩:=hS;have I2:Inv X pins σ H1 {s1 with heap:=h',toks:=k}:=I1.kept (t':=k) λb o e=>hS2 b o (A06 e) e
 refine A3H ?_;obtain⟨o,es,ep,t,ho,hex,hd,_,_,hb,hf,hn⟩:=hS1;refine call_len_set ho hex hd hf (by unfold scanBound at hb;omega) ?_;exact⟨.int _,H1,I2.tok _,⟨_,by rw[hn]⟩,q⟩
theorem a93 {a:Addr}{ns:List Str}{H:Hp}{Q:VK}(h:SqT K H a (ns.map V.str))(hz:ns.length<=1000)(k:Q (.int ((Dh [] ns).length:Nat)) H):Z3 K [.ref a] H Q:=⟨a,ns,rfl,h,hz,k⟩
end
theorem aj7 {z:Str}(h:Nt z=true):z.length<=8:=(aN9 h).2
theorem Yb {ns:List Str}(h:ns.Nodup):(Dh [] ns).length=ns.length:=A4S (Sw ns) (Cc h λz hz=>mem_addAll.mpr (.inr hz))
section
variable {K:W.Frag} {H:Hp} {Q:VK}
end
theorem Gb (ns:List Int):∀ j ≤ ns.length,preSum (λi=>ns.getD i 0) j=(ns.take j).sum
 |0,_=>by simp[preSum]
 |j+1,h=>by rw[preSum,Gb ns j nofun,A0S,Fw (y:=0) (by omega:j<ns.length)];simp
theorem Od:∀ {ns:List Int},(∀ n∈ns,0<=n/\n<=1000000000000)->0<=ns.sum/\ns.sum<=1000000000000*(ns.length:Int)
 | [],_=>by simp
 |n :: ns,h=>by have h1:=h n (by simp);have h2:=Od λm hm=>h m (A0B _ hm);rw[A1I,A0N];omega
section
variable {X:Cx}{K:W.Frag}
def aN4 (K:W.Frag):List V->Hp->VK->Prop:=λxs H Q=>∃(a:Addr) (ns:List Int),xs=[.ref a]/\(SqL K H a (ns.map V.int)\/SqT K H a (ns.map V.int))/\(∀ n∈ns,0<=n/\n<=1000000000000)/\ns.length<=1000000/\Q (.int ns.sum) H
theorem ai1 {ns:List Int}{its:List Value}(r:Vals (ns.map V.int) its){i:Nat}{v:Value}(h:its.toArray[i]? = some v):∃ t,v = .int (ns.getD i 0) t:=by
 rw[A2T] at h;have hl:=r.length;rw[A02] at hl
 have hi:i<ns.length:=by have:=(A00.mp h).1;omega
 obtain⟨u,hu,ru⟩:=r.get (i:=i) (x:=.int (ns.getD i 0)) (by rw[A08,Fw (y:=0) hi];rfl);rw[h] at hu
 cases hu;exact ru
theorem a86 (hc:X.calm=true):CallR X (.builtin "sum") (aN4 X.K):=by
 intro pins s σ H xs us Q I r h;obtain⟨a,ns,rfl,hl,hb,hz,q⟩:=h;obtain⟨u,rfl,ru⟩:=K6 r
 cases ru
 have fits:∀ j,j<ns.length->InLong (ns.getD j 0)/\InLong (preSum (λi=>ns.getD i 0) (j+1)):=λj hj=>by have h1:=hb _ (A04 (Fw (y:=0) hj));have h2:=Od (ns:=ns.take (j+1)) λn hn=>hb n (A2Z hn);rw[Gb ns (j+1) hj];rw[A14] at h2;unfold InLong;omega
 have last:preSum (λi=>ns.getD i 0) ns.length=ns.sum:=by rw[Gb ns _ (A07 _),A11]
 refine call_sum_walk ?_;rcases hl with hl|hl
 . obtain⟨its,rv,pl,_⟩:=I.list hl;have hlen:its.toArray.size=ns.length:=by rw[A0U,<- rv.length,A02]
   have hlt:a<s.heap.objs.size:=let ⟨_,e,_⟩:=pl.isList;A06 e;refine A48 pl.isList ?_;refine⟨_,_,_,_,_,_,λi=>ns.getD i 0,rfl,Walks.list (by simpa using I.ok.hd hc) _ a (Nat.ne_of_lt hlt) its.toArray,⟨⟨_,Heap.get?_push_size _ rfl,rfl,rfl⟩,pl.isList.push _⟩,λb hb'=>?_,λi v hv=>ai1 rv hv,by rw[hlen];exact fits,λh' tk t' hk=>?_⟩
   . rw[A1U];simp only[List.mem_cons,List.not_mem_nil,or_false] at hb';rcases hb' with rfl|rfl
     . exact A32 _
     exact A2D hlt
   refine⟨.int ns.sum,H,I.kept (t':=tk) λb o e=>hk b o (λz=>?_) (A01 _ e),⟨t',by rw[hlen,last]⟩,q⟩;have:b=s.heap.objs.size:=by simpa using z
   subst this;exact absurd (A06 e) (A1P _)
 obtain⟨its,rv,pl,_⟩:=I.tuple hl;have hlen:its.toArray.size=ns.length:=by rw[A0U,<- rv.length,A02]
 have hlt:a<s.heap.objs.size:=let ⟨_,e,_⟩:=pl;A06 e;refine A2Q pl ?_;refine⟨_,_,_,_,_,_,λi=>ns.getD i 0,rfl,Walks.tuple (by simpa using I.ok.hd hc) _ a (Nat.ne_of_lt hlt) its.toArray,⟨⟨_,Heap.get?_push_size _ rfl,rfl,rfl⟩,Heap.IsTuple.push pl _⟩,λb hb'=>?_,λi v hv=>ai1 rv hv,by rw[hlen];exact fits,λh' tk t' hk=>?_⟩
 . rw[A1U];simp only[List.mem_cons,List.not_mem_nil,or_false] at hb';rcases hb' with rfl|rfl
   . exact A32 _
   exact A2D hlt
 refine⟨.int ns.sum,H,I.kept (t':=tk) λb o e=>hk b o (λz=>?_) (A01 _ e),⟨t',by rw[hlen,last]⟩,q⟩;have:b=s.heap.objs.size:=by simpa using z
 subst this;exact absurd (A06 e) (A1P _)
theorem Te (hc:X.calm=true)(hK:X.K=K:=by ac_nf):CallR X (.builtin "sum") (aN4 K):=hK ▸ a86 hc
theorem aD3 {a:Addr}{ns:List Int}{H:Hp}{Q:VK}(h:SqL K H a (ns.map V.int)\/SqT K H a (ns.map V.int))(hb:∀ n∈ns,0<=n/\n<=1000000000000)(hz:ns.length<=1000000)(k:Q (.int ns.sum) H):aN4 K [.ref a] H Q:=⟨a,ns,rfl,h,hb,hz,k⟩
end
section
variable {prog:Program}{w:World}{A:Around}{E:Value->Shared->Prop}{s:Shared}
end
section
variable {X:Cx}{K:W.Frag}
end
section
variable {prog:Program}{w:World}{A:Around}{E:Value->Shared->Prop}{s:Shared}
end
section
variable {X:Cx}{K:W.Frag}
end
section
variable {α:Type}[DecidableEq α]
def B4:List α->(α->Bool)->Nat
 | [],_=>0
 |x :: xs,p=>(p x).toNat+2*B4 xs p
def Fk:List α->α->Nat
 | [],_=>0
 |y :: ys,x=>if x=y then 1 else 2*Fk ys x
theorem Ll {p q:α->Bool}:∀ {ns:List α},(∀ x∈ns,p x=q x)->B4 ns p=B4 ns q
 | [],_=>rfl
 |x :: xs,h=>by unfold B4;rw[h x (by simp),Ll (ns:=xs) λy hy=>h y (by simp[hy])]
theorem ae0 {a b:Bool} {m n:Nat} (h:a.toNat+2*m=b.toNat+2*n):a=b/\m=n:=by cases a<;>cases b<;>simp[Bool.toNat] at h ⊢ <;> omega
theorem L9 {p q:α->Bool}:∀ {ns:List α},B4 ns p=B4 ns q->∀ x∈ns,p x=q x
 | [],_,x,hx=>by cases hx
 |y :: ys,h,x,hx=>by
   unfold B4 at h;obtain⟨h1,h2⟩:=ae0 h;rcases A0C.mp hx with rfl|hx
   . exact h1
   exact L9 h2 x hx
theorem ae4 (a b:Bool)(m n:Nat):(a.toNat+2*m) &&& (b.toNat+2*n)=(a&&b).toNat+2*(m &&& n):=by
 apply Nat.eq_of_testBit_eq;intro i;rw [Nat.testBit_and]
 cases i with
 |zero=>cases a<;>cases b<;>simp[Nat.testBit_zero,Bool.toNat]<;>omega
 |succ i=>
   rw[Nat.testBit_succ,Nat.testBit_succ,Nat.testBit_succ];have e:∀(c:Bool) (k:Nat),(c.toNat+2*k) / 2=k:=λc k=>by cases c<;>simp[Bool.toNat]<;>omega
   rw[e,e,e,Nat.testBit_and]
theorem Vr (p q:α->Bool):∀ ns:List α,B4 ns p &&& B4 ns q=B4 ns (λx=>p x&&q x)
 | []=>by simp[B4]
 |x :: xs=>by unfold B4;rw[ae4,Vr p q xs]
theorem binM_zero {p:α->Bool}:∀ {ns:List α},B4 ns p=0↔∀ x∈ns,p x=false
 | []=>by simp[B4]
 |x :: xs=>by
   unfold B4;have:=binM_zero (p:=p) (ns:=xs);constructor
   . intro h y hy;have h1:(p x).toNat=0:=by omega
     have h2:B4 xs p=0:=by omega
     rcases A0C.mp hy with rfl|hy
     . cases e:p y with
       |false=>rfl
       |true=>rw[e] at h1;cases h1
     exact this.mp h2 y hy
   intro h;rw[h x (by simp),this.mpr λy hy=>h y (by simp[hy])];rfl
theorem Um (p:α->Bool):∀ ns:List α,B4 ns p<2 ^ ns.length
 | []=>by simp[B4]
 |x :: xs=>by
   have:=Um p xs;unfold B4;rw[A0N,Nat.pow_succ];have:(p x).toNat<=1:=by cases p x<;>simp[Bool.toNat]
   omega
theorem Yw:∀ {ns:List α},ns.Nodup->∀ {x:α},x∈ns->Fk ns x=B4 ns (λy=>decide (y=x))
 | [],_,x,h=>by cases h
 |y :: ys,hn,x,h=>by
   obtain⟨h1,h2⟩:=A0P.mp hn;unfold Fk B4
   by_cases e:x=y
   . subst e;rw[A0R rfl,(binM_zero (p:=λy=>decide (y=x)) (ns:=ys)).mpr λz hz=>A0Q λq=>h1 (by rw[<- q];exact hz)];simp[Bool.toNat]
   rw[A0J e,Yw h2 ((A0C.mp h).resolve_left e)];have:decide (y=x)=false:=A0Q λq=>e q.symm;show _=(decide (y=x)).toNat+_;rw[this];simp[Bool.toNat]
theorem Rb (f:α->Nat):∀ l:List α,(l.map λx=>2*f x).sum=2*(l.map f).sum
 | []=>rfl
 |x :: xs=>by simp[Rb f xs,Nat.mul_add]
theorem Mi (p:α->Bool):∀ {ns:List α},ns.Nodup->((ns.filter p).map (Fk ns)).sum=B4 ns p
 | [],_=>rfl
 |y :: ys,hn=>by
   obtain⟨h1,h2⟩:=A0P.mp hn
   have e:(ys.filter p).map (Fk (y :: ys))=(ys.filter p).map λx=>2*Fk ys x:=by
    apply A12;intro x hx;have:x≠y:=λq=>h1 (q ▸ (A15.mp hx).1);show(if x=y then 1 else 2*Fk ys x)=_
    rw [A0J this]
   unfold B4;rw[A4H]
   cases hp:p y with
   |true=>
     rw[A0R rfl,A0H,A1I,e,Rb,Mi p h2];show(if y=y then 1 else _)+_=_
     rw[A0R rfl];rfl
   |false=>rw[A0J ∅,e,Rb,Mi p h2];simp[Bool.toNat]
theorem Qf {p:α->Bool}:∀ {ns:List α},ns.Nodup->∀ {x:α},x∈ns->p x=true->B4 ns p=B4 ns (λy=>p y && !decide (y=x))+Fk ns x
 | [],_,x,h,_=>by cases h
 |y :: ys,hn,x,h,hp=>by
   obtain⟨h1,h2⟩:=A0P.mp hn;unfold Fk B4
   by_cases e:x=y
   . subst e;rw[A0R rfl,hp,Ll (ns:=ys) (p:=λy=>p y && !decide (y=x)) (q:=p) λz hz=>?_]
     . simp[Bool.toNat];omega
     have:decide (z=x)=false:=A0Q λq=>h1 (q ▸ hz);simp[this]
   rw[A0J e,Qf h2 ((A0C.mp h).resolve_left e) hp];have:decide (y=x)=false:=A0Q λq=>e q.symm;show _=((p y && !decide (y=x)).toNat+_)+_;rw[this];simp;omega
def frF (b:α->α->Bool)(L:List α):List α:=L.filter λx=>!(L.any λy=>b y x)
def Ai (L:List α)(x:α):List α:=L.filter λy=>!decide (y=x)
def ext (b:α->α->Bool):Nat->List α->List (List α)
 |0,_=>[[]]
 |n+1,L=>(frF b L).flatMap λx=>(ext b n (Ai L x)).map (x :: ·)
def cnt (b:α->α->Bool)(L:List α):Nat:=(ext b L.length L).length
theorem cnt_nil (b:α->α->Bool):cnt b []=1:=rfl
theorem mem_frF {b:α->α->Bool}{L:List α}{x:α}:x∈frF b L↔x∈L/\∀ y∈L,b y x=false:=by
 unfold frF;rw[A15];constructor
 . rintro ⟨h1,h2⟩;refine⟨h1,λy hy=>?_⟩
   cases e:b y x with
   |false=>rfl
   |true=>
     have:(L.any λy=>b y x)=true:=A1Z.mpr ⟨y,hy,e⟩;rw[this] at h2
     cases h2
 rintro⟨h1,h2⟩;refine⟨h1,?_⟩
 have:(L.any λy=>b y x)=false:=by
  rw[Bool.eq_false_iff];intro h;obtain⟨y,hy,e⟩:=A1Z.mp h;rw[h2 y hy] at e
  cases e
 rw[this];rfl
theorem mem_lessF {L:List α}{x y:α}:y∈Ai L x↔y∈L/\y≠x:=by unfold Ai;rw[A15];simp
theorem Cs {L:List α}(h:L.Nodup)(x:α):(Ai L x).Nodup:=A1Y (A1T) h
theorem Wa:∀ {L:List α} {x:α},x∉L->Ai L x=L:=fun {L x} h=>by unfold Ai;rw[A55];intro y hy;have:y≠x:=λq=>h (q ▸ hy);simp[this]
theorem Cj:∀ {L:List α} {x:α},L.Nodup->x∈L->(Ai L x).length+1=L.length
 | [],_,_,h=>by cases h
 |y :: ys,x,hn,h=>by
   obtain⟨h1,h2⟩:=A0P.mp hn
   by_cases e:y=x
   . subst e;have:Ai (y :: ys) y=Ai ys y:=by unfold Ai;rw[List.filter_cons,if_neg (by simp)]
     rw[this,Wa h1];rfl
   have:Ai (y :: ys) x=y :: Ai ys x:=by unfold Ai;rw[List.filter_cons,if_pos (by simp[e])]
   rw[this,A0N,Cj h2 ((A0C.mp h).resolve_left λq=>e q.symm)];rfl
theorem a44 {b:α->α->Bool} {L:List α} (hn:L.Nodup) (hne:L≠[]):cnt b L=((frF b L).map λx=>cnt b (Ai L x)).sum:=by
 unfold cnt
 cases hl:L.length with
 |zero=>exact absurd (A1C.mp hl) hne
 |succ n=>
   show((frF b L).flatMap λx=>(ext b n (Ai L x)).map (x :: ·)).length=_;rw[A56];congr 1;apply A12;intro x hx;have:=Cj hn (mem_frF.mp hx).1;have e:(Ai L x).length=n:=by omega
   rw[A02,e]
def fac:Nat->Nat
 |0=>1
 |n+1=>fac n*(n+1)
theorem ai5 {f g:α->Nat}:∀ {l:List α},(∀ x∈l,f x<=g x)->(l.map f).sum<=(l.map g).sum
 | [],_=>A07 _
 |x :: xs,h=>by have h1:=h x (by simp);have h2:=ai5 (l:=xs) (f:=f) (g:=g) λy hy=>h y (by simp[hy]);simp;omega
theorem Z6 {b:α->α->Bool}{L:List α}(h:L.Nodup):(frF b L).Nodup:=A1Y A1T h
end
def Mtd (P:Program)(w:World)(K:W.Frag)(mg:Str->Option Value)(base:Heap)(k:Nat)(C:Addr)(m:Str)(ps:List Str)(sp:Sp):Prop:=
 ∃ f fd,FnOk P w K mg base CX0 k f fd ps sp/\ax4 K C m f/\Binds K fd ps []
def Mkd (P:Program)(w:World)(K:W.Frag)(mg:Str->Option Value)(base:Heap)(k:Nat)(C:Addr)(x:Str)(ps:List Str)(sp:Sp):Prop:=
 ∃ f fd,FnOk P w K mg base CX0 k f fd ps sp/\Mk K C f/\mg x=some (.ref C)/\Binds K fd ps []
theorem FnOk.void {P:Program}{w:World}{K:W.Frag}{mg:Str->Option Value}{base:Heap}{CX:CXT}{k:Nat}{f:Addr}{fd:FuncData}{ps:List Str}{sp:Sp}(h:∀ vs H Q E,¬ sp vs H Q E):FnOk P w K mg base CX k f fd ps sp:=
 ⟨λvs H Q E q=>absurd q (h vs H Q E),λA outer s H args us vs Q E _ _ _ _ hs=>absurd hs (h vs H Q E)⟩
def rAt (f:Str)(C:Addr):V->Hp->VK->Prop:=λx H Q=>∃ a dx fs v,x = .ref a/\H a=some (.ins C dx fs)/\fs.lookup f=some v/\Q v H
def tAt (f:Str)(C:Addr)(ta:TE):TE:=fun σ H Q=>ta σ H λx H1=>rAt f C x H1 Q
def rSt (f:Str)(C:Addr)(y:V):V->Hp->(Hp->Prop)->Prop:=λx H R=>∃ a dx fs,x = .ref a/\H a=some (.ins C dx fs)/\fs.length<1000/\R (upd H a (.ins C dx (M0 f y fs)))
def sSt (f:Str)(C:Addr)(ta tv:TE):TS:=λD σ H=>tv σ H λy H1=>ta σ H1 λx H2=>rSt f C y x H2 λH3=>D.nx σ H3
def rMe (m:Str)(C:Addr)(sp:Sp)(t:TA)(σ:St):V->Hp->VK->Prop:=λx H Q=>∃ a dx fs,x = .ref a/\H a=some (.ins C dx fs)/\fs.lookup m=none/\t σ H λvs H2=>sp (x :: (vs++[])) H2 Q E0
def tMe (m:Str)(C:Addr)(sp:Sp)(ta:TE)(t:TA):TE:=fun σ H Q=>ta σ H λx H1=>rMe m C sp t σ x H1 Q
def rMk (C:Addr)(sp:Sp):List V->Hp->VK->Prop:=λvs H1 Q=>∀ x dx,H1 x=none->H1 dx=none->dx≠x ->
 sp (.ref x :: (vs++[])) (upd (upd H1 dx (.own x)) x (.ins C dx [])) (λv H2=>v = .non/\Q (.ref x) H2) E0
def tMk (C:Addr)(sp:Sp)(t:TA):TE:=fun σ H Q=>t σ H λvs H1=>rMk C sp vs H1 Q
def aT0 (ta:TE):TT:=fun σ H Q=>ta σ H λx H1=>∃ i:Int,x = .int i/\Q (i != 0) H1
section
variable {X:Cx}{K:W.Frag}{k:Nat}{C:Addr}{f x m:Str}{ps:List Str}{sp:Sp}{e o value:Expr}{es:List Expr}{ta tv:TE}{t:TA}{p pos pos' apos:Pos}
theorem Ds (he:PE X e ta)(c:Cls X.K C)(n:NoAttr X.K C f)(hb:attributeBase e f X.env (eval e X.env)=eval e X.env):PE X (.Attribute e f pos) (tAt f C ta):=by
 intro pins s σ H Q I h;refine Y4 hb (thn (he pins s σ H _ I h) ?_);rintro u s1 ⟨x,H1,I1,rx,a,dx,fs,v,rfl,ea,l,q⟩
 cases rx;exact Wu I1 ea c n l λu' s2 I2 ru=>⟨v,H1,I2,ru,q⟩
theorem K4 (ha:PE X o ta)(hv:PE X value tv)(c:Cls X.K C)(n:NoAttr X.K C f)(hs:swapsWith value (some (.Attribute o f pos')) pos.line X.env=pure false):PS X (.Assign [.Attribute o f pos'] value pos) (sSt f C ta tv):=by
 intro pins s σ H D I h;refine plainObj_wpAny_Assign_Attribute (thn (hv pins s σ H _ I h) ?_) hs;rintro u s1 ⟨y,H1,I1,ry,q⟩;refine thn (ha pins s1 σ H1 _ I1 q) ?_;rintro ov s2 ⟨x,H2,I2,rx,a,dx,fs,rfl,ea,l,q2⟩
 cases rx;exact Xo I2 ea c n l ry λs3 I3=>⟨σ,_,I3,q2⟩
theorem Uf {pl:Sem Bool}(he:PE X o ta)(c:Cls X.K C)(F:Mtd X.prog X.w X.K X.mg X.base k C m ps sp)(hr:Room k X.A)(ha:PA X (e :: es) t)
  (hst:starEach (e :: es) X.env=(false,eval e X.env) :: starEach es X.env:=by ac_nf) (hpl:(backTo pos (starEach es X.env)).any (·.1)=false:=by ac_nf)
  (ht:eval (.Call (.Attribute o m apos) (e :: es) [] pos) X.env=(do
   let ov <- eval o X.env
   standAt apos.atName
   let (f,first) <- holding [ov] (getMethod ov m pl)
   callWith pos f first (backTo pos (starEach (e :: es) X.env)) (backToKw pos (keywordEach [] X.env))):=by ac_nf) :
  PE X (.Call (.Attribute o m apos) (e :: es) [] pos) (tMe m C sp ta t):=by
 obtain⟨f,fd,h1,h2,h3⟩:=F;exact a52 (pl:=pl) he c h2 h1 hr h3 .nil aa7 ha hst hpl ht
theorem ap0 (F:Mkd X.prog X.w X.K X.mg X.base k C x ps sp)(hr:Room (k+1) X.A)(hg:Gl X x)(ha:PA X (e :: es) t)(hdb:(x==("__debug__":Str))=false:=by decide)
  (he:starEach (e :: es) X.env=(false,eval e X.env) :: starEach es X.env:=by ac_nf) (hpl:(backTo pos (starEach es X.env)).any (·.1)=false:=by ac_nf) :
  PE X (.Call (.Name x p) (e :: es) [] pos) (tMk C sp t):=by
 obtain⟨f,fd,h1,h2,h3,h4⟩:=F;exact Y8 h2 h1 hr hg h3 h4 .nil aa7 ha hdb he hpl
theorem a50 (ha:PE X e ta)(he:∀ whole,isTrue e X.env whole=(do let v <- whole;standAt e.pos;holding [v] (truthy v)):=by intro _;ac_nf):PT X e (aT0 ta):=by intro pins s σ H Q I h;refine isTrue_plain (thn (ha pins s σ H _ I h) ?_) (he _);rintro v s1 ⟨x,H1,I1,r1,i,rfl,q1⟩;exact aB1 pins s1 σ H1 _ v Q I1 r1 ⟨_,rfl,q1⟩
end
section
variable {K:W.Frag}{C:Addr}{f m:Str}{sp:Sp}{ta tv:TE}{t:TA}{σ:St}{H:Hp}{Q:VK}{D:Ends}
theorem i_tAt (k:ta σ H λx H1=>rAt f C x H1 Q):tAt f C ta σ H Q:=k
theorem M6 {a dx:Addr}{fs:List (Str×V)}{v:V}(h:H a=some (.ins C dx fs))(l:fs.lookup f=some v)(k:Q v H):rAt f C (.ref a) H Q:=⟨a,dx,fs,v,rfl,h,l,k⟩
theorem i_sSt (k:tv σ H λy H1=>ta σ H1 λx H2=>rSt f C y x H2 λH3=>D.nx σ H3):sSt f C ta tv D σ H:=k
theorem ac4 {a dx:Addr}{fs:List (Str×V)}{y:V}{R:Hp->Prop}(h:H a=some (.ins C dx fs))(hl:fs.length<1000)(k:∀ H',ExtBut a H H'->H' a=some (.ins C dx (M0 f y fs))->R H'):rSt f C y (.ref a) H R:=
 ⟨a,dx,fs,rfl,h,hl,k _ ExtBut.upd A9⟩
theorem i_tMe (k:ta σ H λx H1=>rMe m C sp t σ x H1 Q):tMe m C sp ta t σ H Q:=k
theorem au7 {a dx:Addr}{fs:List (Str×V)}(h:H a=some (.ins C dx fs))(l:fs.lookup m=none)(k:t σ H λvs H2=>sp (.ref a :: (vs++[])) H2 Q E0):rMe m C sp t σ (.ref a) H Q:=⟨a,dx,fs,rfl,h,l,k⟩
theorem i_tMk (k:t σ H λvs H1=>rMk C sp vs H1 Q):tMk C sp t σ H Q:=k
theorem aQ0 {vs:List V}(k:∀ x dx H2,H x=none->Same H H2->H2 x=some (.ins C dx [])->sp (.ref x :: (vs++[])) H2 (λv H3=>v = .non/\Q (.ref x) H3) E0):rMk C sp vs H Q:=λx dx hx hd hne=>k x dx _ hx (λb o e=>by rw[Ah (ne_of_none e hx),Ah (ne_of_none e hd)];exact e) A9
theorem i_tTru {R:Bool->Hp->Prop}(k:ta σ H λx H1=>∃ i:Int,x = .int i/\R (i != 0) H1):aT0 ta σ H R:=k
theorem a84 {a:Addr}{kvs:List (Key×V)}{z:Int}{v:V}{R:Hp->Prop}(h:H a=some (.dK kvs))(hl:kvs.length<=1000000)(k:∀ H',ExtBut a H H'->H' a=some (.dK (Fs kvs (Sum.inl z) v))->R H'):∃ b H4,V.ref a = .ref b/\DPut H b (.int z) v H4/\R H4:=
 ⟨a,_,rfl,DPut.k (k:=Sum.inl z) h (by rw[A1F];omega),k _ ExtBut.upd A9⟩
theorem W1 {a:Addr}{kvs:List (Key×V)}{z:Int}{v:V}(h:H a=some (.dK kvs))(e:Dj kvs (Sum.inl z:Key)=some v)(k:Q v H):Ui K (.ref a) (.int z) H Q:=.inr ⟨a,v,rfl,by rw[<- e];exact DGet.k (k:=Sum.inl z) h,k⟩
theorem as5 {a:Addr}{kvs:List (Key×V)}{z:Int}(h:H a=some (.dK kvs))(k:Q (.bl (Dj kvs (Sum.inl z:Key)).isNone) H):Xf K true (.int z) (.ref a) H Q:=by
 refine .inr (.inr (.inl ⟨a,Dj kvs (Sum.inl z:Key),rfl,DGet.k (k:=Sum.inl z) h,?_⟩))
 cases e:Dj kvs (Sum.inl z:Key) with
 |none=>rw[e] at k;exact k
 |some v=>rw[e] at k;exact k
end
def ay1 (d v:Addr):HO:=.ext λh=>h.IsValuesView v d
def aJ4:V->List V->Hp->VK->Prop:=λx vs H Q=>∃ d kvs,x = .ref d/\vs=[]/\H d=some (.dK kvs)/\∀ v,H v=none->Q (.ref v) (upd H v (ay1 d v))
def aA0:List V->Hp->VK->Prop:=λxs H Q=>∃(v d:Addr) (kvs:List (Key×V)) (ns:List Int),xs=[.ref v]/\H v=some (ay1 d v)/\H d=some (.dK kvs)/\kvs.map (·.2)=ns.map V.int/\(∀ n∈ns,0<=n/\n<=1000000000000)/\ns.length<=1000000/\Q (.int ns.sum) H
section
variable {X:Cx}{K:W.Frag}
theorem Y2:MtM X "dict.values" aJ4:=by
 intro pins s σ H x vs v us Q I rx rv h;obtain⟨d,kvs,rfl,rfl,hD,q⟩:=h
 cases rx
 cases rv;obtain⟨z1,hd1,vs1,rel1,dd1⟩:=T7 I.hok hD;refine A3O F.slot_dict_values dd1.typeIs F.entry_dict_values (F.args_dict_values_1 _) (meets_dict_values (Ao X.prog X.w) d hd1) ⟨⟨vs1,dd1⟩,?_⟩;refine ⟨.ref s.heap.objs.size,upd H s.heap.objs.size (ay1 d s.heap.objs.size),I.laid (t':=s.toks) (λb u e=>A01 _ e) (A07 _) ⟨⟨_,A0D _ rfl,rfl,rfl⟩,⟨_,A0D _ rfl⟩,λh1 h2 ⟨o,e,r⟩ hk=>⟨o,hk o e,r⟩⟩,rfl,q _ (I.hok.fresh (A07 _))⟩
theorem Yj {α β:Type}{F:α->β->Prop}{l₁:List α}{l₂:List β}(h:Paired F l₁ l₂):∀ {i:Nat} {a:α},l₁[i]? = some a->∃ b,l₂[i]? = some b/\F a b:=by
 induction h with
 |nil=>intro i a e;cases e
 |cons r _ ih=>
   intro i a e
   cases i with
   |zero=>cases e;exact⟨_,rfl,r⟩
   |succ i=>exact ih e
theorem ao8 {ns:List Int}{kvs:List (Key×V)}{vs:List (Key×Value)}(rel:KV kvs vs)(h:kvs.map (·.2)=ns.map V.int){i:Nat}{k:Key}{u:Value}(hx:vs[i]? = some (k,u)):∃ t,u = .int (ns.getD i 0) t:=by
 have hl:kvs.length=vs.length:=rel.length;have hn:kvs.length=ns.length:=by have:=congrArg List.length h;rwa[A02,A02] at this
 have hi:i<vs.length:=(A00.mp hx).1;have hk:kvs[i]? = some kvs[i]:=A05 nofun;obtain⟨q,hq,r⟩:=Yj rel hk;rw[hx] at hq
 cases hq;have e:(kvs.map (·.2))[i]? = some kvs[i].2:=by rw[A08,hk];rfl
 rw[h,A08,Fw (y:=0) (by omega:i<ns.length)] at e;have e2:V.int (ns.getD i 0)=kvs[i].2:=A0O e;have r2:=r.2;rw[<- e2] at r2;exact r2
theorem a77 (hc:X.calm=true):CallR X (.builtin "sum") aA0:=by
 intro pins s σ H xs us Q I r h;obtain⟨v,d,kvs,ns,rfl,hv,hd,hns,hb,hz,q⟩:=h;obtain⟨u,rfl,ru⟩:=K6 r
 cases ru
 have fits:∀ j,j<ns.length->InLong (ns.getD j 0)/\InLong (preSum (λi=>ns.getD i 0) (j+1)):=λj hj=>by have h1:=hb _ (A04 (Fw (y:=0) hj));have h2:=Od (ns:=ns.take (j+1)) λn hn=>hb n (A2Z hn);rw[Gb ns (j+1) hj];rw[A14] at h2;unfold InLong;omega
 have last:preSum (λi=>ns.getD i 0) ns.length=ns.sum:=by rw[Gb ns _ (A07 _),A11]
 obtain⟨_,hs,vs,rel,dd⟩:=T7 I.hok hd;obtain⟨ep,hat⟩:=dd.dictAt;have vv:s.heap.IsValuesView v d:=(show ObjOk X.prog X.w H s.heap v (ay1 d v) from I.hok v _ hv).1;have hlt:d<s.heap.objs.size:=I.hok.lt hd
 have hn:vs.length=ns.length:=by have:=congrArg List.length hns;rw[A02,A02] at this;have:=rel.length;omega
 refine call_sum_walk ?_;obtain⟨oI,St,hit,W,st⟩:=(PySem.W.kdl_values (knd:=Ao X.prog X.w) (r:=v) (d:=d) (kvs:=vs) (ep:=ep)).iter X.A.in1 s (by simpa using I.ok.hd hc) ⟨vv,hat⟩;refine hit _ _ ?_;refine⟨s.heap.objs.size,_,_,_,_,_,λi=>ns.getD i 0,rfl,W,st,?_,?_,by rw[hn];exact fits,?_⟩
 . intro b hb';rw[A1U];simp only[List.mem_cons,List.not_mem_nil,or_false] at hb';rcases hb' with rfl|rfl
   . exact A32 _
   exact A2D hlt
 . rintro i u ⟨k,hx⟩;exact ao8 rel hns hx
 intro h' tk t' hk;refine⟨.int ns.sum,H,I.kept (t':=tk) ?_,⟨t',by rw[hn,last]⟩,q⟩;intro b o e;refine hk b o (λz=>?_) (A01 _ e);have:b=s.heap.objs.size:=by simpa using z
 subst this;exact absurd (A06 e) (A1P _)
theorem aH9 {d:Addr}{kvs:List (Key×V)}{H:Hp}{Q:VK}(h:H d=some (.dK kvs))(k:∀ v H',H v=none->Same H H'->H' v=some (ay1 d v)->Q (.ref v) H'):aJ4 (.ref d) [] H Q:=⟨d,kvs,rfl,rfl,h,λv hv=>k v _ hv (Same.upd hv) A9⟩
theorem aE4 {v d:Addr}{kvs:List (Key×V)}{ns:List Int}{H:Hp}{Q:VK}(hv:H v=some (ay1 d v))(hd:H d=some (.dK kvs))(hns:kvs.map (·.2)=ns.map V.int)(hb:∀ n∈ns,0<=n/\n<=1000000000000)(hz:ns.length<=1000000)(k:Q (.int ns.sum) H):aA0 [.ref v] H Q:=
 ⟨v,d,kvs,ns,rfl,hv,hd,hns,hb,hz,k⟩
end
theorem Rw {α β:Type}{F:α->β->Prop}:∀ {l₁:List α} {l₂:List β},l₁.length=l₂.length->(∀(i:Nat) a b,l₁[i]? = some a->l₂[i]? = some b->F a b)->Paired F l₁ l₂
 | [],[],_,_=>.nil
 |a :: l₁,b :: l₂,hl,h=>.cons (h 0 a b rfl rfl) (Rw (by simpa using hl) λi x y hx hy=>h (i+1) x y hx hy)
section
variable {X:Cx}
end
section
variable {α:Type}[DecidableEq α]
theorem ao0 (a b:Nat):Builtin.bitAnd (a:Int) (b:Int)=((a &&& b:Nat):Int):=by rw[bitAnd_pp (Int.natCast_nonneg _) (Int.natCast_nonneg _)];simp
theorem a71 (p q:α->Bool)(ns:List α):(Builtin.bitAnd (B4 ns p:Int) (B4 ns q:Int) != 0)=ns.any λx=>p x&&q x:=by
 rw[ao0,Vr]
 cases e:ns.any λx=>p x&&q x with
 |true=>
   obtain⟨x,hx,h⟩:=A1Z.mp e
   have:B4 ns (λx=>p x&&q x)≠0:=λz=>by
    have:=binM_zero.mp z x hx;rw[this] at h
    cases h
   simp only[bne_iff_ne,ne_eq];omega
 |false=>
   have:B4 ns (λx=>p x&&q x)=0:=binM_zero.mpr λx hx=>by
    cases c:(p x&&q x) with
    |false=>rfl
    |true=>rw[A1Z.mpr ⟨x,hx,c⟩] at e;cases e
   rw[this];rfl
theorem Zd {ns:List α} (hn:ns.Nodup) {x:α} (hx:x∈ns) (q:α->Bool):(Builtin.bitAnd (Fk ns x:Int) (B4 ns q:Int) != 0)=q x:=by
 rw[Yw hn hx,a71]
 cases c:q x with
 |true=>exact List.any_eq_true.mpr ⟨x,hx,by simp[c]⟩
 |false=>
   rw[Bool.eq_false_iff];intro h;obtain⟨y,_,hy⟩:=A1Z.mp h;rw[A19,A5D] at hy;rw[hy.1,c] at hy
   cases hy.2
theorem X2 (ns:List α)(p q:α->Bool):(ns.any λx=>p x&&q x)=(ns.filter q).any p:=by
 induction ns with
 |nil=>rfl
 |cons y ys ih=>
   rw[A21,ih,A4H]
   cases c:q y with
   |true=>rw[A0R rfl,A21,Bool.and_true]
   |false=>rw[A0J ∅,A50,A4C]
theorem a83 (b:α->α->Bool)(ns:List α)(q:α->Bool):(ns.filter λx=>q x && !(ns.any λy=>b y x&&q y))=frF b (ns.filter q):=by unfold frF;rw[List.filter_filter];apply A2E;intro x _;rw[X2,Bool.and_comm]
theorem Du (ns:List α)(q:α->Bool)(x:α):(ns.filter λy=>q y && !decide (y=x))=Ai (ns.filter q) x:=by unfold Ai;rw[List.filter_filter];apply A2E;intro y _;rw[Bool.and_comm]
theorem ak2 {m n:Nat}(h:m<=n):fac m<=fac n:=by
 induction h with
 |refl=>exact A07 _
 |@step k _ ih=>exact A0L ih (Nat.le_mul_of_pos_right _ (Nat.succ_pos k))
theorem T5 (c:Nat):∀ l:List α,(l.map λ_=>c).sum=l.length*c
 | []=>by simp
 |x :: xs=>by rw[A0H,A1I,T5 c xs,A0N,A3Y,Nat.one_mul,Nat.add_comm]
theorem ak9 (b:α->α->Bool):∀(n:Nat) (L:List α),L.length=n->L.Nodup->cnt b L<=fac n
 |0,L,hl,_=>by have:=A1C.mp hl;subst this;exact A07 _
 |n+1,L,hl,hn=>by
   have hne:L≠[]:=by intro e;rw[e] at hl;cases hl
   rw[a44 hn hne]
   have h1:((frF b L).map λx=>cnt b (Ai L x)).sum<=((frF b L).map λ_=>fac n).sum:=ai5 λx hx=>by have:=Cj hn (mem_frF.mp hx).1;exact ak9 b n (Ai L x) nofun (Cs hn x)
   rw[T5] at h1;refine A0L h1 ?_;show _<=fac n*(n+1);rw[A4O];refine Nat.mul_le_mul_left _ ?_;rw[<- hl];exact A1L _ _
theorem as0 {b:α->α->Bool}{L:List α}(hn:L.Nodup)(h:L.length<=10):cnt b L<=3628800:=A0L (ak9 b _ L rfl hn) (A0L (ak2 h) ∅)
end
def aw4 (ns:List Str):List (Key×V):=ns.map λx=>((Sum.inr x:Key),V.int ((Fk ns x:Nat):Int))
def ahK (ns:List Str)(ps:List (Str×Str)):List (Key×V):=ns.map λx=>((Sum.inr x:Key),V.int ((B4 ns (λy=>Be ps y x):Nat):Int))
theorem G8 {f:Str->V}:∀ {ns:List Str} {x:Str},x∈ns->Dj (ns.map λx=>((Sum.inr x:Key),f x)) (Sum.inr x:Key)=some (f x)
 | [],x,h=>by cases h
 |y :: ys,x,h=>by
   rw[A0H]
   by_cases e:y=x
   . subst e;exact Ba rfl
   rw[B6 λq=>e (Sum.inr.inj q)];exact G8 ((A0C.mp h).resolve_left λq=>e q.symm)
theorem J4 {f:Str->V}:∀ {ns:List Str} {x:Str},x∉ns->Dj (ns.map λx=>((Sum.inr x:Key),f x)) (Sum.inr x:Key)=none
 | [],x,h=>rfl
 |y :: ys,x,h=>by rw[List.map_cons,B6 λq=>h (by rw[<- Sum.inr.inj q];simp)];exact J4 λq=>h (A0B _ q)
theorem Ms:∀ {ns:List Str} {i:Nat} {x:Str},ns.Nodup->ns[i]? = some x->Fk ns x=2 ^ i
 | [],i,x,_,h=>by cases h
 |y :: ys,0,x,_,h=>by cases h;unfold Fk;rw[A0R rfl]
 |y :: ys,i+1,x,hn,h=>by obtain⟨h1,h2⟩:=A0P.mp hn;have hx:ys[i]? = some x:=h;unfold Fk;rw[A0J λq=>h1 (by rw[<- q];exact A04 hx),Ms h2 hx,Nat.pow_succ,A4O]
theorem IsL.int_eq {K:W.Frag}{H:Hp}:∀ {ns:List Int} {vs:List V},IsL K H (ns.map PyData.int) vs->vs=ns.map V.int
 | [],vs,h=>by simp only[List.map_nil,IsL] at h;exact h
 |n :: ns,vs,h=>by simp only[List.map_cons,IsL,Is] at h;obtain⟨v,r,rfl,rfl,e3⟩:=h;rw[IsL.int_eq e3];rfl
theorem Mg {α:Type}(f:α->Nat):∀ l:List α,(l.map λx=>((f x:Nat):Int)).sum=(((l.map f).sum:Nat):Int)
 | []=>rfl
 |x :: xs=>by rw[A0H,A1I,Mg f xs,A0H,A1I];omega
theorem ExtBut.fzI {p:Addr}{H H':Hp}{C dx:Addr}{fs:List (Str×V)}(e:ExtBut p H H')(hp:H p=some (.ins C dx fs)):Fz H H':=W5 e λxs h=>by
 rcases h with h|⟨o,h⟩
 . rw[hp] at h;cases h
 rw[hp] at h;cases h
def Knw (ns:List Str) (ps:List (Str×Str)) (kvs:List (Key×V)):Prop:=(kvs.map (·.1)).Nodup /\
 (∀ kv∈kvs,∃ q:Str->Bool,kv.1=Sum.inl ((B4 ns q:Nat):Int)/\kv.2=V.int ((cnt (Be ps) (ns.filter q):Nat):Int))/\Dj kvs (Sum.inl 0:Key)=some (.int 1)
theorem Qw {κ:Type}[DecidableEq κ]:∀ {kvs:List (κ×V)} {k:κ} {v:V},Dj kvs k=some v->(k,v)∈kvs
 | [],k,v,h=>by cases h
 |p :: r,k,v,h=>by
   by_cases e:p.1=k
   . rw[Ba e] at h
     cases h;rw[<- e];exact A0M
   rw[B6 e] at h;exact A0B _ (Qw h)
theorem Knw.get {ns:List Str}{ps:List (Str×Str)}{kvs:List (Key×V)}(h:Knw ns ps kvs){q:Str->Bool}{v:V}(e:Dj kvs (Sum.inl ((B4 ns q:Nat):Int):Key)=some v):v = .int ((cnt (Be ps) (ns.filter q):Nat):Int):=by
 obtain⟨q',h1,h2⟩:=h.2.1 _ (Qw e)
 have h3:B4 ns q'=B4 ns q:=by have:=A33 h1;omega
 have h4:ns.filter q'=ns.filter q:=A2E λx hx=>L9 h3 x hx;rw[h4] at h2;exact h2
theorem Knw.len {ns:List Str}{ps:List (Str×Str)}{kvs:List (Key×V)}(h:Knw ns ps kvs)(hf:ns.length<=10):kvs.length<=1024:=by
 have:=Cc (ys:=(List.range 1024).map λi=>(Sum.inl ((i:Nat):Int):Key)) h.1 λk hk=>by obtain⟨kv,hkv,rfl⟩:=A0E.mp hk;obtain⟨q,h1,_⟩:=h.2.1 kv hkv;rw[h1];have h2:=Um q ns;have h3:(2:Nat) ^ ns.length<=2 ^ 10:=A30 ∅ hf;exact A0E.mpr ⟨B4 ns q,A2A.mpr nofun,rfl⟩
 rwa [A02,A02,A1R] at this
theorem Knw.put {ns:List Str}{ps:List (Str×Str)}{kvs:List (Key×V)}(h:Knw ns ps kvs)(q:Str->Bool) :
  Knw ns ps (Fs kvs (Sum.inl ((B4 ns q:Nat):Int)) (.int ((cnt (Be ps) (ns.filter q):Nat):Int))):=by
 cases e:Dj kvs (Sum.inl ((B4 ns q:Nat):Int):Key) with
 |some v=>
   have hp:Fs kvs (Sum.inl ((B4 ns q:Nat):Int):Key) (.int ((cnt (Be ps) (ns.filter q):Nat):Int))=kvs:=by
    unfold Fs;rw[Hv,e,A0R (show(some v).isSome=true from rfl)]
    conv=>rhs;rw[<- List.map_id kvs]
    apply A12;intro kv hkv
    by_cases c:kv.1=Sum.inl ((B4 ns q:Nat):Int)
    . rw[A0R c];obtain⟨q',h1,h2⟩:=h.2.1 kv hkv;rw[h1] at c
      have h3:B4 ns q'=B4 ns q:=by have:=A33 c;omega
      have h4:ns.filter q'=ns.filter q:=A2E λx hx=>L9 h3 x hx;rw[<- h4,<- h2];rfl
    rw[A0J c];rfl
   rw[hp];exact h
 |none=>
   refine⟨at4 _ h.1 e,λkv hkv=>?_,?_⟩
   . rw[L6 _ e] at hkv;rcases A0G.mp hkv with hkv|hkv
     . exact h.2.1 kv hkv
     have:kv=(Sum.inl ((B4 ns q:Nat):Int),V.int ((cnt (Be ps) (ns.filter q):Nat):Int)):=by simpa using hkv
     subst this;exact⟨q,rfl,rfl⟩
   rw[ab3]
   by_cases c:(Sum.inl 0:Key)=Sum.inl ((B4 ns q:Nat):Int)
   . rw[<- c,h.2.2] at e
     cases e
   rw[A0J c];exact h.2.2
theorem Knw.new (ns:List Str)(ps:List (Str×Str)):Knw ns ps [(Sum.inl 0,V.int 1)]:=by
 refine⟨by simp,λkv hkv=>?_,Ba rfl⟩;have:kv=(Sum.inl 0,V.int 1):=by simpa using hkv
 subst this;refine⟨λ_=>false,?_,?_⟩
 . rw[binM_zero.mpr λ_ _=>rfl];rfl
 have:ns.filter (λ_=>false)=[]:=by simp
 rw[this,cnt_nil];rfl
structure WaysAt (K:W.Frag)(C:Addr)(H:Hp)(p dx:Addr)(nv:V)(bd ad kd:Addr)(ns:List Str)(ps:List (Str×Str))(kvs:List (Key×V)):Prop where
 ob:H p=some (.ins C dx [("names",nv),("bits",.ref bd),("ahead",.ref ad),("full",.int ((B4 ns (λ_=>true):Nat):Int)),("known",.ref kd)])
 nm:Is K H (nmD ns) nv
 bt:H bd=some (.dK (aw4 ns))
 ah:H ad=some (.dK (ahK ns ps))
 kn:H kd=some (.dK kvs)
 nb:bd≠kd
 na:ad≠kd
 ok:Knw ns ps kvs
section
variable {K:W.Frag}{C:Addr}{H H':Hp}{p dx:Addr}{nv:V}{bd ad kd:Addr}{ns:List Str}{ps:List (Str×Str)}{kvs kvs':List (Key×V)}
theorem WaysAt.same (h:WaysAt K C H p dx nv bd ad kd ns ps kvs)(e:Same H H'):WaysAt K C H' p dx nv bd ad kd ns ps kvs:=
 ⟨e _ _ h.ob,h.nm.nm_fz e.fz,e _ _ h.bt,e _ _ h.ah,e _ _ h.kn,h.nb,h.na,h.ok⟩
theorem WaysAt.pk (h:WaysAt K C H p dx nv bd ad kd ns ps kvs):p≠kd:=ne_of h.ob h.kn (by intro z;cases z)
theorem WaysAt.put (h:WaysAt K C H p dx nv bd ad kd ns ps kvs)(e:ExtBut kd H H')(hk:H' kd=some (.dK kvs'))(ok:Knw ns ps kvs'):WaysAt K C H' p dx nv bd ad kd ns ps kvs':=
 ⟨e _ _ h.pk h.ob,h.nm.nm_fz (e.fzD h.kn),e _ _ h.nb h.bt,e _ _ h.na h.ah,hk,h.nb,h.na,ok⟩
theorem WaysAt.list {l:Addr}{xs:List V}(h:WaysAt K C H p dx nv bd ad kd ns ps kvs)(e:ExtBut l H H')(hl:H l=some (.lst xs)):WaysAt K C H' p dx nv bd ad kd ns ps kvs:=
 ⟨e _ _ (ne_of h.ob hl (by intro z;cases z)) h.ob,h.nm.nm_fz (e.fzL hl),e _ _ (ne_of h.bt hl (by intro z;cases z)) h.bt,e _ _ (ne_of h.ah hl (by intro z;cases z)) h.ah,e _ _ (ne_of h.kn hl (by intro z;cases z)) h.kn,h.nb,h.na,h.ok⟩
end
section
variable {α:Type}[DecidableEq α]
end
def Ip (ns:List Str)(ct:List ((Str->Bool)×Nat)):List (Key×V):=ct.map λe=>((Sum.inl ((B4 ns e.1:Nat):Int):Key),V.int ((e.2:Nat):Int))
def Hk (ns:List Str)(F:List Str->Nat)(ct:List ((Str->Bool)×Nat)):Nat:=(ct.map λe=>e.2*F (ns.filter e.1)).sum
def Qz (ns:List Str)(ct:List ((Str->Bool)×Nat)):Prop:=((Ip ns ct).map (·.1)).Nodup
theorem C9 (ns:List Str)(F:List Str->Nat)(e:(Str->Bool)×Nat)(r:List ((Str->Bool)×Nat)):Hk ns F (e :: r)=e.2*F (ns.filter e.1)+Hk ns F r:=by unfold Hk;rw[List.map_cons,List.sum_cons]
theorem aq0 {p:Key×V}{r:List (Key×V)}{k:Key}{v:V}(h:¬ p.1=k):Fs (p :: r) k v=p :: Fs r k v:=by
 unfold Fs;rw[A21,A0Q h,A4C]
 by_cases c:(r.any λkv=>decide (kv.1=k))=true
 . rw[A0R c,A0R c,A0H,A0J h]
 rw[A0J c,A0J c];rfl
theorem an5 {p:Key×V}{r:List (Key×V)}{v:V}(h:p.1∉r.map (·.1)):Fs (p :: r) p.1 v=(p.1,v) :: r:=by
 unfold Fs;rw[A21,A0Z rfl,A4U,A0R rfl,A0H,A0R rfl];congr 1
 conv=>rhs;rw[<- List.map_id r]
 apply A12;intro kv hkv;rw[A0J λq=>h (A0E.mpr ⟨kv,hkv,q⟩)];rfl
theorem a60 (ns:List Str) (q:Str->Bool) (c:Nat):∀ {ct:List ((Str->Bool)×Nat)},Qz ns ct->∃(k0:Nat) (ct':List ((Str->Bool)×Nat)),
  (Dj (Ip ns ct) (Sum.inl ((B4 ns q:Nat):Int):Key)).getD (.int 0) = .int ((k0:Nat):Int)/\Ip ns ct'=Fs (Ip ns ct) (Sum.inl ((B4 ns q:Nat):Int)) (.int (((k0+c:Nat)):Int)) /\
  (∀ k,k∈(Ip ns ct').map (·.1)↔k∈(Ip ns ct).map (·.1)\/k=Sum.inl ((B4 ns q:Nat):Int))/\Qz ns ct'/\∀ F,Hk ns F ct'=Hk ns F ct+c*F (ns.filter q)
 | [],_=>⟨0,[(q,c)],rfl,by rw[Nat.zero_add];rfl,λk=>by simp[Ip],by unfold Qz Ip;simp,λF=>by unfold Hk;simp⟩
 |e :: r,h=>by
   have h:((Sum.inl ((B4 ns e.1:Nat):Int):Key) :: (Ip ns r).map (·.1)).Nodup:=h;obtain⟨h1,h2⟩:=A0P.mp h
   by_cases c1:B4 ns e.1=B4 ns q
   . have hf:ns.filter e.1=ns.filter q:=A2E λx hx=>L9 c1 x hx;refine⟨e.2,(e.1,e.2+c) :: r,?_,?_,λk=>?_,h,λF=>?_⟩
     . show(Dj ((Sum.inl ((B4 ns e.1:Nat):Int),V.int ((e.2:Nat):Int)) :: Ip ns r) _).getD _=_;rw[Ba (by rw[c1])];rfl
     . show(Sum.inl ((B4 ns e.1:Nat):Int),V.int ((e.2+c:Nat):Int)) :: Ip ns r=Fs ((Sum.inl ((B4 ns e.1:Nat):Int),V.int ((e.2:Nat):Int)) :: Ip ns r) _ _;rw[<- c1,an5 (p:=(Sum.inl ((B4 ns e.1:Nat):Int),V.int ((e.2:Nat):Int))) h1]
     . show k∈(Sum.inl ((B4 ns e.1:Nat):Int):Key) :: (Ip ns r).map (·.1)↔k∈(Sum.inl ((B4 ns e.1:Nat):Int):Key) :: (Ip ns r).map (·.1)\/_;constructor
       . exact .inl
       rintro(h|h)
       . exact h
       rw[h,c1];simp
     rw[C9,C9];show(e.2+c)*F (ns.filter e.1)+_=_;rw[hf,A3Y];omega
   have hk:¬ (Sum.inl ((B4 ns e.1:Nat):Int):Key)=Sum.inl ((B4 ns q:Nat):Int):=λz=>c1 (by have:=A33 z;omega);obtain⟨k0,ct',g1,g2,g3,g4,g5⟩:=a60 ns q c h2;refine⟨k0,e :: ct',?_,?_,λk=>?_,?_,λF=>?_⟩
   . show(Dj ((Sum.inl ((B4 ns e.1:Nat):Int),V.int ((e.2:Nat):Int)) :: Ip ns r) _).getD _=_;rw[B6 hk];exact g1
   . show(Sum.inl ((B4 ns e.1:Nat):Int),V.int ((e.2:Nat):Int)) :: Ip ns ct'=Fs ((Sum.inl ((B4 ns e.1:Nat):Int),V.int ((e.2:Nat):Int)) :: Ip ns r) _ _;rw[aq0 hk,g2]
   . show k∈(Sum.inl ((B4 ns e.1:Nat):Int):Key) :: (Ip ns ct').map (·.1)↔k∈(Sum.inl ((B4 ns e.1:Nat):Int):Key) :: (Ip ns r).map (·.1)\/_;rw[A0C,A0C,g3];constructor
     . rintro(h|h|h)
       . exact .inl (.inl h)
       . exact .inl (.inr h)
       exact .inr h
     rintro((h|h)|h)
     . exact .inl h
     . exact .inr (.inl h)
     exact .inr (.inr h)
   . show((Sum.inl ((B4 ns e.1:Nat):Int):Key) :: (Ip ns ct').map (·.1)).Nodup;refine A0P.mpr ⟨λhm=>?_,g4⟩;rcases(g3 _).mp hm with hm|hm
     . exact h1 hm
     exact hk hm
   rw[C9,C9,g5];omega
theorem ar8 {ns:List Str}{ct:List ((Str->Bool)×Nat)}(h:Qz ns ct)(hf:ns.length<=10):ct.length<=1024:=by
 have:=Cc (ys:=(List.range 1024).map λi=>(Sum.inl ((i:Nat):Int):Key)) h λk hk=>by obtain⟨kv,hkv,rfl⟩:=A0E.mp hk;obtain⟨e,_,rfl⟩:=A0E.mp hkv;have h2:=Um e.1 ns;have h3:(2:Nat) ^ ns.length<=2 ^ 10:=A30 ∅ hf;exact A0E.mpr ⟨B4 ns e.1,A2A.mpr nofun,rfl⟩
 unfold Ip at this;rwa[A02,A02,A02,A1R] at this
section
variable {K:W.Frag}{σ:St}{H:Hp}{Q:VK}{td ty tx:TE}
def aj6 (ty tx:TE)(σ:St):V->Hp->VK->Prop:=λx H1 Q=>∃ a,x = .ref a/\IsD H1 a/\ty σ H1 λy H2=>tx σ H2 λz H3=>∃ o,DGet H3 a y o/\Q (o.getD z) H3
theorem i_dget2 (k:td σ H λx H1=>aj6 ty tx σ x H1 Q):aj4 td ty tx σ H Q:=k
theorem ad3 {a:Addr}{kvs:List (Key×V)}(h:H a=some (.dK kvs))(k:ty σ H λy H2=>tx σ H2 λz H3=>∃ o,DGet H3 a y o/\Q (o.getD z) H3):aj6 ty tx σ (.ref a) H Q:=⟨a,rfl,.inl ⟨kvs,.inl h⟩,k⟩
theorem aq9 {a:Addr}{kvs:List (Key×V)}{z:Int}{v:V}(h:Rd H a (.dK kvs))(e:Dj kvs (Sum.inl z:Key)=some v)(k:Q v H):Ui K (.ref a) (.int z) H Q:=.inr ⟨a,v,rfl,.inl ⟨kvs,Sum.inl z,h,rfl,e.symm⟩,k⟩
end
section
variable {K:W.Frag}{C:Addr}{H H':Hp}{p dx:Addr}{nv:V}{bd ad kd:Addr}{ns:List Str}{ps:List (Str×Str)}{kvs:List (Key×V)}
end
section
variable {K:W.Frag}{σ:St}{H:Hp}{Q:VK}
end
theorem Oh {prog:Program}{w:World}{κ:Type}[DecidableEq κ](knd:KeyKind prog w κ)(d:Addr) :
  MeetsIn prog w (Builtin.«dict.update» ⟨[.ref d,.ref d],[]⟩) (λ_ R s=>(∃ kvs,s.heap.DictOf knd d kvs)/\R (.ok (.ret .none)) s):=
 .of_wp λA R s hh=>by obtain⟨⟨kvs,hd⟩,h⟩:=hh;unfold Builtin.«dict.update» Builtin.Dict.selfAndRest;refine A03 (A03 (wpAny_notOrdered_dict hd.typeIs ?_));show wpAny _ _ (pure (d,[Value.ref d])) _ _ s;refine A09 ?_;show wpAny _ _ (Builtin.Dict.updateFrom "dict.update" d (.ref d) [] .none) _ _ s;unfold Builtin.Dict.updateFrom Builtin.Dict.merge Builtin.Dict.readDirectly;refine A03 (A3M hd.typeIs ?_);rw[A0J ∅];refine A03 (A03 (A03 (wpAny_isInstance hd.typeIs isSubtype_dict_dict ?_)));simp only[Bool.not_true,Bool.false_eq_true,if_false];refine A03 (wpAny_specialOf hd.typeIs F.slot_dict_iter.lookup (A09 ?_));simp only[beq_self_eq_true,if_true];refine A03 (A09 ?_);unfold Builtin.Dict.mergeDict;rw[if_pos (by simp)];refine A03 (wpAny_rule (A09 ?_));show wpAny _ _ (Builtin.Dict.addKeywords d [] >>= _) _ _ _;exact A03 (A09 (A09 ⟨.none,rfl,h⟩))
def Vy:V->List V->Hp->VK->Prop:=λx vs H Q=>∃ d kvs,x = .ref d/\vs=[.ref d]/\H d=some (.dK kvs)/\Q .non H
def Rg:V->List V->Hp->VK->Prop:=λx vs H Q=>Tt x vs H Q\/Vy x vs H Q
section
variable {X:Cx}{K:W.Frag}
theorem Xd:MtM X "dict.update" Vy:=by
 intro pins s σ H x vs v us Q I rx rv h;obtain⟨d,kvs,rfl,rfl,hD,q⟩:=h
 cases rx;obtain⟨u,rfl,ru⟩:=rv.one
 cases ru;obtain⟨z1,hd1,vs1,rel1,dd1⟩:=T7 I.hok hD;refine A3O F.slot_dict_update dd1.typeIs F.entry_dict_update (F.args_dict_update_2 _ _) (Oh (Ao X.prog X.w) d) ⟨⟨vs1,dd1⟩,?_⟩;exact⟨.non,H,I.tok s.toks,rfl,q⟩
theorem Xj:MtM X "dict.update" Rg:=by
 intro pins s σ H x vs v us Q I rx rv h;rcases h with h|h
 . exact a02 pins s σ H x vs v us Q I rx rv h
 exact Xd pins s σ H x vs v us Q I rx rv h
end
theorem aG4 {d o:Addr}{ks ms:List Str}{H:Hp}{Q:VK}(hd:H d=some (.dK (Kj ks)))(ho:H o=some (.dK (Kj ms)))(hne:d≠o)(hz:ks.length+ms.length<=1000000)(k:∀ H',ExtBut d H H'->H' d=some (.dK (Kj (Dh ks ms)))->Q .non H'):Rg (.ref d) [.ref o] H Q:=.inl (aP2 hd ho hne hz k)
theorem aE8 {d:Addr}{kvs:List (Key×V)}{H:Hp}{Q:VK}(hd:H d=some (.dK kvs))(k:Q .non H):Rg (.ref d) [.ref d] H Q:=.inr ⟨d,kvs,rfl,rfl,hd,k⟩
structure Pa (ns:List Str)(ps:List (Str×Str)):Prop where
 nd:ns.Nodup
 mem:∀ p∈ps,p.1∈ns/\p.2∈ns
 few:ns.length<=100
 le:ps.length<=1100
theorem HalfW.c {ns:List Str}{ps:List (Str×Str)}(h:HalfW ns ps):Pa ns ps:=⟨h.nd,h.mem,h.few,A0L h.le ∅⟩
instance {ns:List Str} {ps:List (Str×Str)}:Coe (HalfW ns ps) (Pa ns ps):=⟨HalfW.c⟩
theorem HalfW.more {ns:List Str}{ps:List (Str×Str)}(h:HalfW ns ps){x y:Str}(hx:x∈ns)(hy:y∈ns):Pa ns (ps++[(x,y)]):=by
 refine⟨h.nd,λp hp=>?_,h.few,?_⟩
 . rcases A0G.mp hp with hp|hp
   . exact h.mem p hp
   have:p=(x,y):=by simpa using hp
   rw[this];exact⟨hx,hy⟩
 have:=h.le;rw[A0T,A27];omega
section
variable {α:Type}[DecidableEq α]
def okR (b:α->α->Bool) (r:List α):Prop:=(∀ u∈r,b u u=false)/\r.Pairwise λu v=>b v u=false
theorem T0 {L:List α}(hn:L.Nodup){x:α}(hx:x∈L):(x :: Ai L x).Perm L:=by
 induction L with
 |nil=>cases hx
 |cons y ys ih=>
   obtain⟨h1,h2⟩:=A0P.mp hn
   by_cases e:y=x
   . subst e
     have:Ai (y :: ys) y=ys:=by
      have e1:Ai (y :: ys) y=Ai ys y:=by unfold Ai;rw[List.filter_cons,if_neg (by simp)]
      rw[e1,Wa h1]
     rw[this]
   have e1:Ai (y :: ys) x=y :: Ai ys x:=by unfold Ai;rw[List.filter_cons,if_pos (by simp[e])]
   rw[e1];exact(List.Perm.swap y x _).trans ((ih h2 ((A0C.mp hx).resolve_left λq=>e q.symm)).cons y)
theorem Jc (b:α->α->Bool):∀(n:Nat) (L r:List α),L.Nodup->L.length=n->(r∈ext b n L↔r.Perm L/\okR b r)
 |0,L,r,_,hl=>by
   have:=A1C.mp hl;subst this;constructor
   . intro h;have:r=[]:=by simpa[ext] using h
     subst this;exact⟨.refl _,(λ_ h=>by cases h),List.Pairwise.nil⟩
   rintro⟨h,_⟩;have:r=[]:=List.perm_nil.mp h;subst this;simp[ext]
 |n+1,L,r,hn,hl=>by
   constructor
   . intro h;obtain⟨x,hx,h⟩:=A4G.mp h;obtain⟨t,ht,rfl⟩:=A0E.mp h;have hxL:=mem_frF.mp hx;have hlen:=Cj hn hxL.1;obtain⟨h1,h2,h3⟩:=(Jc b n (Ai L x) t (Cs hn x) nofun).mp ht;refine⟨(h1.cons x).trans (T0 hn hxL.1),λu hu=>?_,List.pairwise_cons.mpr ⟨λv hv=>hxL.2 v (mem_lessF.mp (h1.mem_iff.mp hv)).1,h3⟩⟩;rcases A0C.mp hu with rfl|hu
     . exact hxL.2 u hxL.1
     exact h2 u hu
   rintro⟨hp,hd,hpw⟩
   cases r with
   |nil=>
     have:=hp.length_eq;rw[hl] at this
     cases this
   |cons x t=>
     have hxL:x∈L:=hp.mem_iff.mp (by simp);have hlen:=Cj hn hxL;have hpt:t.Perm (Ai L x):=List.Perm.cons_inv (hp.trans (T0 hn hxL).symm);obtain⟨q1,q2⟩:=List.pairwise_cons.mp hpw;refine List.mem_flatMap.mpr ⟨x,mem_frF.mpr ⟨hxL,λy hy=>?_⟩,List.mem_map.mpr ⟨t,(Jc b n (Ai L x) t (Cs hn x) nofun).mpr ⟨hpt,λu hu=>hd u (by simp[hu]),q2⟩,rfl⟩⟩
     by_cases e:y=x
     . rw[e];exact hd x (by simp)
     exact q1 y (hpt.mem_iff.mpr (mem_lessF.mpr ⟨hy,e⟩))
theorem Iu (b:α->α->Bool):∀(n:Nat) (L:List α),L.Nodup->(ext b n L).Nodup
 |0,L,_=>by simp[ext]
 |n+1,L,hn=>by
   show((frF b L).flatMap λx=>(ext b n (Ai L x)).map (x :: ·)).Nodup
   have key:∀ l:List α,l.Nodup->(l.flatMap λx=>(ext b n (Ai L x)).map (x :: ·)).Nodup:=by
    intro l
    induction l with
    |nil=>intro _;simp
    |cons y ys ih=>
      intro hl;obtain⟨h1,h2⟩:=A0P.mp hl;rw[A3J,A1S];refine⟨?_,ih h2,?_⟩
      . have hi:=Iu b n (Ai L y) (Cs hn y);exact List.pairwise_map.mpr (hi.imp λhne e=>hne (A5F e).2)
      intro r hr t ht e;obtain⟨r',_,rfl⟩:=A0E.mp hr;obtain⟨z,hz,ht⟩:=A4G.mp ht;obtain⟨t',_,rfl⟩:=A0E.mp ht;have:y=z:=(A5F e).1;exact h1 (this ▸ hz)
   exact key _ (Z6 hn)
theorem Wz {β:Type}[DecidableEq β]{xs ys:List β}(h1:xs.Nodup)(h2:ys.Nodup)(h:∀ z,z∈xs↔z∈ys):xs.length=ys.length:=
 A4S (Cc h1 λz hz=>(h z).mp hz) (Cc h2 λz hz=>(h z).mpr hz)
end
theorem Pl:∀ {r:List Str} {x:Str},x∈r->r[r.idxOf x]? = some x/\(∀ m<r.idxOf x,r[m]? ≠ some x)/\r.idxOf x<r.length
 | [],_,h=>by cases h
 |y :: ys,x,h=>by
   rw[List.idxOf_cons]
   by_cases e:y=x
   . subst e;simp
   have hb:(y==x)=false:=by simpa using e
   obtain⟨h1,h2,h3⟩:=Pl ((A0C.mp h).resolve_left λq=>e q.symm);rw[hb];refine⟨h1,λm hm=>?_,by simpa using h3⟩
   cases m with
   |zero=>simpa using e
   |succ m=>exact h2 m (by simpa using hm)
theorem ag7 {ns r:List Str}{ps:List (Str×Str)}(hn:ns.Nodup)(hm:∀ p∈ps,p.1∈ns/\p.2∈ns)(hp:r.Perm ns):okR (Be ps) r↔∀ p∈ps,r.idxOf p.1<r.idxOf p.2:=by
 have hrn:r.Nodup:=hp.nodup_iff.mpr hn;constructor
 . rintro⟨h1,h2⟩ p hpp;obtain⟨m1,m2⟩:=hm p hpp;obtain⟨a1,_,a3⟩:=Pl (hp.mem_iff.mpr m1);obtain⟨b1,_,b3⟩:=Pl (hp.mem_iff.mpr m2);have hw:Be ps p.1 p.2=true:=wayB_iff.mpr (.one hpp);have a4:=(A00.mp a1).2;have b4:=(A00.mp b1).2;rcases Nat.lt_trichotomy (r.idxOf p.1) (r.idxOf p.2) with h|h|h
   . exact h
   . have e:p.1=p.2:=by rw[h,b1] at a1;exact(A0O a1).symm
     rw[e] at hw;rw[h1 p.2 (hp.mem_iff.mpr m2)] at hw
     cases hw
   have:=List.pairwise_iff_getElem.mp h2 _ _ b3 a3 h;rw[a4,b4] at this;rw[this] at hw
   cases hw
 intro h
 have hw:∀ u v,Way ps u v->r.idxOf u<r.idxOf v:=λu v g=>by
  induction g with
  |one e=>exact h _ e
  |cons e _ ih=>exact A4R (h _ e) ih
 refine⟨λu hu=>?_,List.pairwise_iff_getElem.mpr λi j hi hj hij=>?_⟩
 . cases c:Be ps u u with
   |false=>rfl
   |true=>exact absurd (hw u u (wayB_iff.mp c)) (A1P _)
 cases c:Be ps r[j] r[i] with
 |false=>rfl
 |true=>
   have g:=hw _ _ (wayB_iff.mp c)
   have ix:∀ k (hk:k<r.length),r.idxOf r[k]=k:=λk hk=>by obtain⟨f1,_,f3⟩:=Pl (List.getElem_mem hk);exact(A1G hrn).mp (A00.mp f1).2
   rw[ix j hj,ix i hi] at g;omega
theorem Qx {ns:List Str}{ps:List (Str×Str)}(h:HalfW ns ps){x y:Str}(hx:x∈ns)(hy:y∈ns):cnt (Be (ps++[(x,y)])) ns=((ext (Be ps) ns.length ns).filter λr=>decide (r.idxOf x<r.idxOf y)).length:=by
 refine Wz (Iu _ _ _ h.nd) (A1Y A1T (Iu _ _ _ h.nd)) λr=>?_;rw[A15,Jc _ _ _ _ h.nd rfl,Jc _ _ _ _ h.nd rfl,A5D]
 have key:∀ hp:r.Perm ns,okR (Be (ps++[(x,y)])) r↔okR (Be ps) r/\r.idxOf x<r.idxOf y:=λhp=>by
  rw[ag7 h.nd (h.more hx hy).mem hp,ag7 h.nd h.mem hp];constructor
  . intro g;exact⟨λp hpp=>g p (List.mem_append_left _ hpp),g (x,y) (by simp)⟩
  rintro⟨g1,g2⟩ p hpp;rcases A0G.mp hpp with hpp|hpp
  . exact g1 p hpp
  have:p=(x,y):=by simpa using hpp
  rw[this];exact g2
 constructor
 . rintro⟨hp,ho⟩;exact⟨⟨hp,((key hp).mp ho).1⟩,((key hp).mp ho).2⟩
 rintro⟨⟨hp,ho⟩,hi⟩;exact⟨hp,(key hp).mpr ⟨ho,hi⟩⟩
theorem at5 {ns:List Str}{ps:List (Str×Str)}(h:HalfW ns ps){x y:Str}(hx:x∈ns)(hy:y∈ns)(hxy:x≠y):cnt (Be (ps++[(x,y)])) ns+cnt (Be (ps++[(y,x)])) ns=cnt (Be ps) ns:=by
 rw[Qx h hx hy,Qx h hy hx]
 have key:∀ l:List (List Str),(∀ r∈l,r.idxOf x≠r.idxOf y)->(l.filter λr=>decide (r.idxOf x<r.idxOf y)).length+(l.filter λr=>decide (r.idxOf y<r.idxOf x)).length=l.length:=by
  intro l
  induction l with
  |nil=>intro _;rfl
  |cons r rs ih=>
    intro g;have g1:=g r (by simp);have g2:=ih λt ht=>g t (by simp[ht]);rw[A4H,A4H,A0N];rcases Nat.lt_or_gt_of_ne g1 with c|c
    . rw[A0R (A0Z c),A0J (by rw[A0Q nofun];decide),A0N];omega
    rw[A0J (by rw[A0Q nofun];decide),A0R (A0Z c),A0N];omega
 refine key _ λr hr e=>hxy ?_;obtain⟨hp,_⟩:=(Jc _ _ _ _ h.nd rfl).mp hr;obtain⟨a1,_,_⟩:=Pl (hp.mem_iff.mpr hx);obtain⟨b1,_,_⟩:=Pl (hp.mem_iff.mpr hy);rw[e,b1] at a1;exact(A0O a1).symm
section
variable {prog:Program}{w:World}{A:Around}{E:Value->Shared->Prop}{I:Addr}{fp wr:List Addr}{n:Nat}{P:Nat->Value->Prop}{St:Nat->Heap->Prop}
end
section
variable {α:Type}[DecidableEq α]
end
section
variable {prog:Program}{w:World}{A:Around}{E:Value->Shared->Prop}{s:Shared}
end
section
variable {κ:Type}[DecidableEq κ]
end
theorem Zf {l:Addr}{xs:List V}{H:Hp}{Q:VK}(h:H l=some (.lst xs))(k:∀ H',ExtBut l H H'->H' l=some (.lst xs.reverse)->Q .non H'):W3 (.ref l) [] H Q:=⟨l,xs,rfl,rfl,h,k _ ExtBut.upd A9⟩
section
variable {α:Type}[DecidableEq α]
end
section
variable {X:Cx}
end
def ItE (K:W.Frag)(a:Addr):It:=
 ⟨λi H=>∃ xs x,SqL K H a xs/\xs[i]? = some x,λi H v H'=>∃ t x,H t=none/\H'=upd H t (.tup [.int i,x])/\v = .ref t/\∀ xs,SqL K H a xs->xs[i]? = some x,λi H=>∃ xs,SqL K H a xs/\xs.length=i⟩
theorem Wr {P:Program}{w:World}{K:W.Frag}{elts:List Expr}{ek:Nat}{epos:Pos}(a it e:Addr)(hei:e≠it)(hai:a≠it)(hae:a≠e):a85 P w K (.Tuple elts ek epos) (ItE K a) [e,it] e (λi h=>(∃ old,IsEnum h e it i old)/\h.IsListIter it a i) where
 mem:=by simp
 obj:=λi h st b hb=>by
  obtain⟨⟨old,h1⟩,o,h2,h3,h4⟩:=st;rcases A0C.mp hb with rfl|hb
  . exact⟨_,h1,λv z=>by cases z⟩
  have q:b=it:=by simpa using hb
  subst q;exact⟨o,h2,λv z=>by rw[h4] at z;cases z⟩
 keep:=λi h h' st k=>by obtain⟨⟨old,h1⟩,h2⟩:=st;exact⟨⟨old,k e (by simp) _ h1⟩,h2.at λo q=>k it (by simp) o q⟩
 item:=by
  intro X hP hw hK hc i pins s σ H E I hf st hg;subst hP hw hK;obtain⟨xs,x,hq,hx⟩:=hg;obtain⟨its,rv,p,hz⟩:=I.list hq
  have hil:i<its.length:=by have:=(A00.mp hx).1;rw[<- rv.length];exact this
  have D:=Draws.list (prog:=X.prog) (w:=X.w) (A:=X.A.in1) (by simpa using I.ok.hd hc) it a hai its.toArray;obtain⟨⟨old,he⟩,hit⟩:=st;have hel:e<s.heap.objs.size:=A06 he;have hil':it<s.heap.objs.size:=let ⟨_,q,_⟩:=hit;A06 q;refine wpAny_pyNext_enum_itemD D he ⟨hit,(PlainL.isList p)⟩ (by simpa using hil) hei (by simp[hei,Ne.symm hae]) λv h1 tk hv ho hst hT hsz hk=>?_;obtain⟨u,hu,ru⟩:=rv.get hx
  have hvu:v=u:=by have hv':its.toArray[i]? = some v:=hv;rw[A2T,hu] at hv';exact(A0O hv').symm
  subst hvu;refine⟨_,rfl,wpAny_letOwnedTupleGo_enum ho λh2 he2 hs2=>?_⟩;have hTn:H s.heap.objs.size=none:=I.hok.fresh (A07 _);have hT2:h2.get? s.heap.objs.size=some {cls:=.type "tuple",data:=.seq #[.int i tk,v]}:=(hs2.2 _ (A3K hel)).trans hT
  have I1:Inv X pins σ (upd H s.heap.objs.size (.tup [.int i,x])) {s with heap:=s.heap.push {cls:=.type "tuple",data:=.seq #[.int i tk,v]}}:=
   I.laid (t':=s.toks) (λb ob q=>Heap.get?_push_of_some _ q) (Nat.le_refl _) ⟨by simp[sizeLine_eq],[.int i tk,v],.cons ⟨tk,rfl⟩ (.cons ru .nil),_,Heap.get?_push_size _ rfl,rfl,⟨_,rfl⟩,rfl⟩
  have nT:∀ b∈[e,it],b≠s.heap.objs.size:=λb hb=>by
   rcases A0C.mp hb with rfl|hb
   . exact A0K hel
   have q:b=it:=by simpa using hb
   subst q;exact A0K hil'
  have I2:Inv X pins σ (upd H s.heap.objs.size (.tup [.int i,x])) {s with heap:=h2,toks:=tk+1}:=Inv.turnedL (s:={s with heap:=s.heap.push {cls:=.type "tuple",data:=.seq #[.int i tk,v]}}) (ch:=[e,it]) I1 (λb ob hb q=>?_) (λb hb=>?_)
  . refine⟨.ref s.heap.objs.size,_,I2,rfl,⟨_,x,hTn,rfl,rfl,λys hy=>by rw[I.list_inj hy hq];exact hx⟩,⟨⟨_,by simpa using he2⟩,hst.1.at λo q=>(hs2.2 it (Ne.symm hei)).trans q⟩,λb hb=>?_⟩;rw[Ah (nT b hb)];exact(hf b hb).1
  . have hbe:b≠e:=λz=>hb (by simp[z]);have hbi:b≠it:=λz=>hb (by simp[z]);rcases Heap.get?_push_cases q with ⟨rfl,rfl⟩|q
    . exact hT2
    exact(hs2.2 b hbe).trans (hk b ob hbe hbi q)
  obtain⟨f0,f1,f2,f3,f4,f5⟩:=hf b hb;exact⟨by rw[Ah (nT b hb)];exact f0,f1,f2,f3,f4,f5⟩
 done:=by
  intro X hP hw hK hc i pins s σ H E I hf st hg;subst hP hw hK;obtain⟨xs,hq,hx⟩:=hg;obtain⟨its,rv,p,hz⟩:=I.list hq;obtain⟨⟨old,he⟩,hit⟩:=st;have hlen:its.toArray.size=i:=by rw[A0U,<- rv.length];exact hx
  have D:=Draws.list (prog:=X.prog) (w:=X.w) (A:=X.A.in1) (by simpa using I.ok.hd hc) it a hai its.toArray;rw[hlen] at D;refine wpAny_pyNext_enum_endD D he ⟨hit,(PlainL.isList p)⟩ λh' hk=>⟨rfl,I.turnedL (t':=s.toks) (ch:=[e,it]) (λb o hb q=>hk b o (λz=>hb (by simp[z])) q) hf⟩
 self:=by intro A i s Q E st hQ;obtain⟨⟨old,he⟩,_⟩:=st;exact A49 he hQ
section
variable {X:Cx}{K:W.Frag}
def a45 (K:W.Frag)(vs:List V)(H:Hp)(R:It->Hp->Prop):Prop:=∃ a xs,vs=[.ref a]/\SqL K H a xs/\R (ItE K a) H
def ag9 (K:W.Frag)(ta:TA):TI:=fun σ H R=>ta σ H λvs H1=>a45 K vs H1 R
theorem ae2 {e:Expr}{ta:TA}{p pos:Pos}{elts:List Expr}{ek:Nat}{epos:Pos}(hg:Gl X "enumerate")(hm:X.mg "enumerate" = none)(ha:PA X [e] ta)(hK:X.K=K:=by ac_nf)(hs:starEach [e] X.env=[(false,eval e X.env)]:=by ac_nf) :
  PI X (.Tuple elts ek epos) (.Call (.Name "enumerate" p) [e] [] pos) (ag9 K ta):=by
 subst hK;intro pins s σ H R I h;refine Call_ (J9 I hg hm Jt (A1K (thn (ha pos pins s σ H _ I h) λus s1 ⟨vs,H1,I1,r1,q1⟩=>?_) hs rfl));obtain⟨a,xs,rfl,hq,q⟩:=q1;obtain⟨u,rfl,ru⟩:=Vals.one r1
 cases ru;obtain⟨its,rv,ht,hz⟩:=I1.list hq;have hal:a<s1.heap.objs.size:=let ⟨_,q,_⟩:=(PlainL.isList ht);A06 q;refine call_enumerate_list (PlainL.isList ht) λh' he hit _ hk=>?_;refine A49 he ?_;refine⟨s1.heap.objs.size+1,[s1.heap.objs.size+1,s1.heap.objs.size],_,_,H1,rfl,I1.kept (t':=s1.toks) hk,Wr a s1.heap.objs.size (s1.heap.objs.size+1) (Nat.succ_ne_self _) (A0K hal) (A0K (A2D hal)),⟨⟨_,he⟩,hit⟩,λb hb=>?_,q⟩;rcases A0C.mp hb with rfl|hb
 . exact I1.fpOk (A2H _) (I1.hok.fresh (A2H _))
 have e:b=s1.heap.objs.size:=by simpa using hb
 subst e;exact I1.fpOk (A07 _) (I1.hok.fresh (A07 _))
end
section
variable {K:W.Frag}{σ:St}{H:Hp}
theorem i_ienumL {ts:TA}{R:It->Hp->Prop}(k:ts σ H λvs H1=>a45 K vs H1 R):ag9 K ts σ H R:=k
theorem Yh {xs:List V}{a:Addr}{n m:Nat}{tb:TS}{D:Ends}(h:SqL K H a xs)(Pv:Nat->St->Hp->Prop)(h0:Pv 0 σ H)(hG:∀ i σ' H',Pv i σ' H'->SqL K H' a xs)
  (hs:∀ i x σ' H' H2,xs[i]? = some x->Pv i σ' H'->Same H' H2->tb {D with nx:=Pv (i+1),ct:=Pv (i+1),bk:=D.nx} ((σ'.set n (some (.int i))).set m (some x)) H2) (hd:∀ σ' H',Pv xs.length σ' H'->D.nx σ' H') :
  a45 K [.ref a] H λJ H1=>ak0 (aG0 K 2 (Uw (M9 n) (Uw (M9 m) aL6))) tb D σ J H1:=by
 refine⟨a,xs,rfl,h,λi k σ' H'=>k=xs.length-i/\i<=xs.length/\Pv i σ' H',⟨xs.length,by simp,Nat.zero_le _,h0⟩,?_⟩;rintro i k σ' H' ⟨rfl,hi,p⟩;have g:=hG i σ' H' p
 by_cases hlt:i<xs.length
 . refine .inr ⟨⟨xs,xs[i],g,A05 hlt⟩,Pv (i+1),fun σ2 H2 p2=>⟨xs.length-(i+1),by omega,rfl,hlt,p2⟩,λv H2 y=>?_⟩;obtain⟨t,x,ht,rfl,rfl,hx⟩:=y;exact⟨t,_,rfl,SqT.of A9,rfl,.int i,[x],rfl,x,[],rfl,rfl,hs i x σ' H' _ (hx xs g) p (Same.upd ht)⟩
 have e:i=xs.length:=by omega
 subst e;exact .inl ⟨⟨xs,g,rfl⟩,hd σ' H' p⟩
end
end L2
namespace L2
open PySem PySem.Spec PyProof.Rows
open PySem PySem.W PyProof.Rows
section
variable {n:Nat}{r:Nat->Nat}
end
section
variable {prog:Program}{w:World}{A:Around}{E:Value->Shared->Prop}{z:Shared}
end
section
variable {X:Cx}{K:W.Frag}
end
end L2
namespace L2
open PySem PySem.Spec PyProof.Rows
theorem aj9 {ns:List Str}{ps:List (Str×Str)}(hn:ns.Nodup){p:Str×Str}(h:p∈unP ns ps):p.1≠p.2:=by
 unfold unP unK at h;rw[A4G] at h;obtain⟨i,hi,h⟩:=h;have hi':=A2A.mp hi;unfold unR at h;obtain⟨y,hy,rfl⟩:=A0E.mp h;have hy1:=(A15.mp hy).1;intro (e:ns.getD i "" = y);have e1:ns.getD i "" = ns[i]:=by simp[hi']
 have h3:(ns.drop i).Nodup:=hn.sublist (List.drop_sublist _ _);rw [List.drop_eq_getElem_cons hi'] at h3;exact(A0P.mp h3).1 (by rw[<- e1,e];exact hy1)
theorem Way.swap {ps:List (Str×Str)}{x y:Str}(g:Way (ps.map λp=>(p.2,p.1)) x y):Way ps y x:=by
 induction g with
 |one h=>
   obtain⟨p,hp,e⟩:=A0E.mp h
   cases e;exact .one hp
 |cons h _ ih=>
   obtain⟨p,hp,e⟩:=A0E.mp h
   cases e;exact ih.snoc hp
section
variable {κ:Type}[DecidableEq κ]{P:Program}{w:World}{kd:KeyKind P w κ}{A:Around}{E:Value->Shared->Prop}{z:Shared}
theorem a47 {e:Addr}{al:List (κ×Value)}{G:Bool->Shared->Prop}(nd:(e==sysModules)=false)(od:z.heap.DictOf kd e al)(go:G false z) :
  wpAny (model P w) A (Builtin.List.listLengthHint (.ref e)) G E z:=by
 unfold Builtin.List.listLengthHint;refine(A03 (wpAny_specialOf od.typeIs (F.slot_dict_len).lookup ?_));generalize gid:("dict.__len__":String)=which
 wp_delta
 rw[show splitId which=some ("dict","__len__") from(by subst gid;decide +kernel)];subst gid;refine(A03 (wpAny_isInstance (T:="dict") (b:=true) od.typeIs (by rw[isSubtype_type];kernel_rfl) ?_));refine(wpAny_ite_split (λno=>absurd no ∅) (λ_=>?_));refine(wpAny_ite_split (λ_=>?_) (λno=>absurd (by decide +kernel) no));refine(A03 (A3M (T:="dict") od.typeIs ?_));exact A09 go
theorem Ut {R:Result->Shared->Prop}{e:Addr}{al:List (κ×Value)}{ep:Nat}(calm:A.handled=none)(nd:(e==sysModules)=false)(od:z.heap.DictAt kd e al ep)(few:al.length<=2 ^ 24)
  (L:Addr) (res:Value) (c0:Nat) (hL:z.heap.get? L=some {cls:=.type "list",data:=.seq #[] c0})
  (go:∀ g tk out c,(∀ b o,b≠L->z.heap.get? b=some o->g.get? b=some o)->g.get? L=some {cls:=.type "list",dict:=none,data:=.seq out c,slots:=#[]} ->
   ItemsOf (λi v=>∃ k x,al[i]? = some (k,x)/\kd.is k v=true) out al.length->R (.ok (.ret res)) {z with heap:=g,toks:=tk}) :
  wpAny (model P w) A.in1 (Builtin.List.listExtendWith (.ref L) (.ref e) res)
   (λfin s'=>match fin with | .done f=>R (.ok f) s' | .again c'=>c'.quiet=true/\codeAny (model P w) A c' R s') (λe s'=>R (.error e) s') z:=by
 have tyd:z.TypeIs (.ref e) "dict":=od.dictOf.typeIs
 have apart:L≠e:=λq=>by
  obtain⟨o,h1,h2⟩:=tyd;rw[<- q,hL] at h1
  cases h1;simp at h2
 have low:L<z.heap.objs.size:=A06 hL;have lowE:e<z.heap.objs.size:=od.lt_size;have off:L≠z.heap.objs.size:=A0K low;have W:=(Walks.dictKeys (knd:=kd) (prog:=P) (w:=w) (A:=A.in1) calm z.heap.objs.size e (A0K lowE) al ep).toS
 have notin:L∉[z.heap.objs.size,e]:=λq=>by
  simp only[List.mem_cons,List.not_mem_nil,or_false] at q;rcases q with q|q
  . exact off q
  exact apart q
 have run:∀(g:Heap) (c1 tk:Nat),g.IsKeyIter z.heap.objs.size e 0 al.length ep->g.DictAt kd e al ep->(∀ b o,b≠L->z.heap.get? b=some o->g.get? b=some o) ->
   g.get? L=some {cls:=.type "list",data:=.seq #[] c1}->codeAny (model P w) A (.builtin "list.extend.loop" ⟨[.ref L,.ref z.heap.objs.size,res],[]⟩) R {z with heap:=g,toks:=tk}:=by
  intro g c1 tk it od1 keep hL1;refine(codeAny_extend_loopS W (by rw[A1F];omega) L notin res al.length 0 _ #[] c1 rfl (A3G _) ⟨it,od1⟩ hL1 (ItemsOf.nil _) λs' out c' mv hL' items=>?_);rw[Moved.eq_with mv];refine(go s'.heap s'.toks out c' (λb o hb q=>mv.heap b o (λm=>?_) (keep b o hb q)) hL' items);rcases A0C.mp m with q'|m
  . exact hb q'
  exact absurd (A06 q) (by rw[A29.mp m];exact A1P _)
 unfold Builtin.List.listExtendWith;refine(A03 (A3M (T:="dict") tyd ?_));have n1:Builtin.List.listSameRef (.ref L) (.ref e)=false:=by simp[Builtin.List.listSameRef,apart]
 have n2:(Value.type "dict" == Value.type "list")=false:=by decide
 have n3:(Value.type "dict" == Value.type "tuple")=false:=by decide
 simp only[n1,n2,n3,Bool.or_false,Bool.false_eq_true,if_false];refine(A03 (wpAny_pyIter_dict nd od ?_));have od1:=od.push {cls:=.type "dict_keyiterator",data:=.fields #[.ref e,.int 0 0,.int al.length 0,.int ep 0]};refine(A03 (A20 (a47 nd od1.dictOf ?_)));have it1:(z.heap.push {cls:=.type "dict_keyiterator",data:=.fields #[.ref e,.int 0 0,.int al.length 0,.int ep 0]}).IsKeyIter z.heap.objs.size e 0 al.length ep:=⟨_,A0D _ rfl,rfl,rfl⟩;have hL1:=A01 {cls:=.type "dict_keyiterator",data:=.fields #[.ref e,.int 0 0,.int al.length 0,.int ep 0]} hL;refine(wpAny_ite_split (λ_=>?_) (λ_=>A09 ⟨A4D F.plain_extend_loop _,run _ c0 _ it1 od1 (λb o _ q=>A01 _ q) hL1⟩));refine(A03 (wpAny_rule ?_));refine(A03 ?_);show wpAny _ _ (updateSeq L (·.push .none) >>= λ_=>updateSeq L (·.pop)) _ _ _;refine(A03 (wpAny_updateSeq hL1 rfl ?_));have hL2:=A1W (Obj.mapSeq (·.push Value.none)) hL1 rfl;refine(wpAny_updateSeq (hz:=by seq_fits) hL2 rfl ?_);have hL3:=A1W (Obj.mapSeq (·.pop)) hL2 rfl
 have up:∀ b o,b≠L->(z.heap.push {cls:=.type "dict_keyiterator",data:=.fields #[.ref e,.int 0 0,.int al.length 0,.int ep 0]}).get? b=some o->_:=λb o hb q=>
  (A1D _ (Obj.mapSeq (·.pop)) (Ne.symm hb)).trans ((A1D _ (Obj.mapSeq (·.push Value.none)) (Ne.symm hb)).trans q)
 exact A09 ⟨A4D F.plain_extend_loop _,run _ _ _ (it1.at λo q=>up _ o (Ne.symm off) q) (od1.at' λo q=>up _ o (Ne.symm apart) q) (λb o hb q=>up b o hb (A01 _ q)) hL3⟩
theorem a09 {R:Result->Shared->Prop}{e:Addr}{al:List (κ×Value)}{ep:Nat}(calm:A.handled=none)(nd:(e==sysModules)=false)(od:z.heap.DictAt kd e al ep)(few:al.length<=2 ^ 24)
  (L:Addr) (hL:z.heap.get? L=some {cls:=.type "list",data:=.seq #[]})
  (go:∀ g tk out c,(∀ b o,b≠L->z.heap.get? b=some o->g.get? b=some o)->g.get? L=some {cls:=.type "list",dict:=none,data:=.seq out c,slots:=#[]} ->
   ItemsOf (λi v=>∃ k x,al[i]? = some (k,x)/\kd.is k v=true) out al.length->R (.ok (.ret .none)) {z with heap:=g,toks:=tk}) :
  wpAny (model P w) A.in1 (Builtin.«list.__init__» ⟨[.ref L,.ref e],[]⟩)
   (λfin s'=>match fin with | .done f=>R (.ok f) s' | .again c'=>c'.quiet=true/\codeAny (model P w) A c' R s') (λe s'=>R (.error e) s') z:=by
 have apart:e≠L:=λq=>by
  obtain⟨o,h1,h2⟩:=od.dictOf.typeIs (s:=z);rw[q,hL] at h1
  cases h1;simp at h2
 show wpAny _ _ (do let was <- Builtin.List.listItems (.ref L);Builtin.List.listUpdate (.ref L) (λ_=>#[]);letGo was.toList.reverse;Builtin.List.listExtendWith (.ref L) (.ref e) .none) _ _ z
 refine(A03 ?_);unfold Builtin.List.listItems;refine(A03 (A51 hL rfl (A09 ?_)));show wpAny _ _ (updateSeq L (λ_=>#[]) >>= λ_=>letGo (#[]:Array Value).toList.reverse >>= λ_=>Builtin.List.listExtendWith (.ref L) (.ref e) .none) _ _ z;refine(A03 (wpAny_updateSeq hL rfl ?_));have hL2:=A1W (Obj.mapSeq (λ_=>(#[]:Array Value))) hL rfl
 have up:∀ b o,b≠L->z.heap.get? b=some o->(z.heap.update L (Obj.mapSeq (λ_=>(#[]:Array Value)))).get? b=some o:=
  λb o hb q=>(A1D _ _ (Ne.symm hb)).trans q
 refine(A03 (wpAny_letGo ?_));refine(Ut calm nd (od.at' λo q=>up e o apart q) few L .none _ hL2 λg tk out c keep hL' items=>?_);exact go g tk out c (λb o hb q=>keep b o hb (up b o hb q)) hL' items
theorem Ow {Q:Value->Shared->Prop}{e:Addr}{al:List (κ×Value)}{ep:Nat}(calm:A.handled=none)(nd:(e==sysModules)=false)(od:z.heap.DictAt kd e al ep)(few:al.length<=2 ^ 24)
  (go:∀ g tk out c,(∀ b o,z.heap.get? b=some o->g.get? b=some o)->g.get? z.heap.objs.size=some {cls:=.type "list",dict:=none,data:=.seq out c,slots:=#[]} ->
   ItemsOf (λi v=>∃ k x,al[i]? = some (k,x)/\kd.is k v=true) out al.length->Q (.ref z.heap.objs.size) {z with heap:=g,toks:=tk}) :
  wpAny (model P w) A (call (.type "list") [.ref e]) Q E z:=by
 refine callType_codes (Q₁:=λnew s₁=>new = .ref z.heap.objs.size/\s₁={z with heap:=z.heap.push {cls:=.type "list",data:=.seq #[]}}) F.called_list (F.typeCall_list_1 _) F.entry_list_init
  (code_list_new _ ⟨rfl,rfl⟩) λnew s₁ both=>?_
 obtain⟨rfl,rfl⟩:=both;have hL:(z.heap.push {cls:=.type "list",data:=.seq #[]}).get? z.heap.objs.size=some {cls:=.type "list",data:=.seq #[]}:=A0D _ rfl;refine⟨⟨_,hL,rfl⟩,F.args_list_init_2 _ _,a09 (A:=A.in1) calm nd (od.push _) few _ hL λg tk out c keep hL' items=>?_⟩;exact⟨rfl,go g tk out c (λb o q=>keep b o (A0K (A06 q)) (A01 _ q)) hL' items⟩
end
section
variable {X:Cx}{K:W.Frag}
def ak4:List V->Hp->VK->Prop:=λxs H Q=>∃(d:Addr) (kvs:List (Key×V)),xs=[.ref d]/\H d=some (.dK kvs)/\kvs.length<=1000000/\∀ l,H l=none->Q (.ref l) (upd H l (.lst (kvs.map λkv=>kV kv.1)))
theorem Pm (hc:X.calm=true):CallR X (.type "list") ak4:=by
 intro pins s σ H xs us Q I r h;obtain⟨d,kvs,rfl,hd,hz,q⟩:=h;obtain⟨u,rfl,ru⟩:=K6 r
 cases ru;obtain⟨_,hs,vs,rel,dd⟩:=T7 I.hok hd;obtain⟨ep,hat⟩:=dd.dictAt;have hlen:=rel.length;refine Ow (by simpa using I.ok.hd hc) hs hat nofun λg tk out c keep hL items=>?_;refine⟨.ref s.heap.objs.size,_,I.laid (t':=tk) (o:=.lst (kvs.map λkv=>kV kv.1)) keep (Nat.le_refl _) ⟨?_,out.toList,c,Rw ?_ ?_,by simpa using hL⟩,rfl,q _ (I.hok.fresh (Nat.le_refl _))⟩
 . rw[A02,A1F];omega
 . have e1:=items.1;have e2:out.toList.length=out.size:=A53;have e3:(kvs.map λkv=>kV kv.1).length=kvs.length:=A02 ..;omega
 intro i a b ha hb;rw[A3N] at hb;obtain⟨k,x,hkx,hk⟩:=items.2 i b hb
 have hk':kvs[i]?.map (·.1)=some k:=by rw[<- A08,rel.keys,A08,hkx];rfl
 rw[A08] at ha
 cases g:kvs[i]? with
 |none=>rw[g] at ha;cases ha
 |some kv=>
   rw[g] at ha hk'
   cases ha;have e:kv.1=k:=A0O hk';subst e;exact Zr hk
theorem Y0 {d:Addr}{kvs:List (Key×V)}{H:Hp}{Q:VK}(h:H d=some (.dK kvs))(hz:kvs.length<=1000000)(k:∀ l H',H l=none->Same H H'->H' l=some (.lst (kvs.map λkv=>kV kv.1))->Q (.ref l) H'):ak4 [.ref d] H Q:=
 ⟨d,kvs,rfl,h,hz,λl hl=>k l _ hl (Same.upd hl) A9⟩
end
section
variable {P:Program}{w:World}{A:Around}{E:Value->Shared->Prop}{z:Shared}
end
section
variable {P:Program}{w:World}{A:Around}{E:Value->Shared->Prop}{z:Shared}{c TI TO i1 i2 D:Addr}{fp1 fp2:List Addr}{n:Nat}{P1 P2:Nat->Value->Prop}{S1 S2:Nat->Heap->Prop}
end
section
variable {P:Program}{w:World}{κ:Type}[DecidableEq κ]{kd:KeyKind P w κ}{A:Around}{E:Value->Shared->Prop}{c TI TO i1 i2 D:Addr}{fp1 fp2:List Addr}{n:Nat}{P1 P2:Nat->Value->Prop}{S1 S2:Nat->Heap->Prop}
end
section
variable {P:Program}{w:World}{A:Around}{E:Value->Shared->Prop}{z:Shared}
end
section
variable {X:Cx}{K:W.Frag}
end
section
variable {K:W.Frag}{H:Hp}{Q:VK}
theorem R1 {u:Addr}{ys:List V}(h:SqL K H u ys\/SqT K H u ys)(k:∀ a H',Same H H'->SqT K H' a ys->Q (.ref a) H'):Lr K [.ref u] H Q:=by
 rcases h with h|h
 . exact Gi h λp H' hp e h'=>k p H' e (SqT.of h')
 exact⟨u,ys,rfl,.inr ⟨h,k u H (.refl _) h⟩⟩
end
section
variable {ns ns':List Str}{ps ps' bs:List (Str×Str)}
end
def sw (p:Str×Str):Str×Str:=(p.2,p.1)
theorem aN0 (ps:List (Str×Str)):(ps.map sw).map sw=ps:=by rw[A1A];exact List.map_id _
theorem way_sw {ps:List (Str×Str)}{x y:Str}:Way (ps.map sw) x y↔Way ps y x:=
 ⟨λg=>Way.swap g,λg=>Way.swap (ps:=ps.map sw) (by rw[show((ps.map sw).map λp=>(p.2,p.1))=ps from aN0 ps];exact g)⟩
section
variable {ns:List Str}{ps:List (Str×Str)}
end
section
variable {P:Program}{w:World}{A:Around}{E:Value->Shared->Prop}{z:Shared}
end
section
variable {X:Cx}{K:W.Frag}
end
section
variable {α:Type}[DecidableEq α]{b:α->α->Bool}{L:List α}
end
def aK9:List V->Hp->VK->Prop:=λxs H Q=>∃ i:Int,xs=[.int i]/\i.natAbs.log2<1920/\Q (.str (toString i)) H
theorem Wy {X:Cx}:CallR X (.builtin "repr") aK9:=by intro pins s σ H xs us Q I r h;obtain⟨i,rfl,hz,q⟩:=h;obtain ⟨u,rfl,t,rfl⟩:=K6 r;exact PySem.P.repr_of_int hz ⟨.str _,H,I.tok _,⟨_,rfl⟩,q⟩
def xB:List Value:=[.type "ValueError",.type "Exception",.type "BaseException",.type "object"]
def av0 (K:W.Frag)(C:Addr):Bool:=match K.lookup C with
 |some ⟨.type "type",_,.cls cd,sl⟩=>(match cd.mro,sl.toList with
   |.ref D :: bm,[_,_,_,_,some (.builtin n),_]=>D==C&&n == "ValueError.__new__" && !cd.hasDel&&cd.hasDict&&W.tailIn K xB bm
   |_,_=>false)
 |_=>false
theorem La {K:W.Frag}{C:Addr}(q:av0 K C=true):∃(nm qn:Str) (N:Addr) (bs bm:List Value) (sn:List Str) (sub:List Value) (ab:Bool) (col:Option Bool) (dd:Option Addr) (k0 k1 k2 k3 k5:Option Value),
  K.lookup C=some (excClassObj nm qn C N bs bm true sn sub ab col dd k0 k1 k2 k3 k5 "ValueError.__new__")/\W.tailIn K xB bm=true:=by
 unfold av0 at q
 split at q
 . rename_i dd cd sl ho
   split at q
   . rename_i D bm k0 k1 k2 k3 n k5 hm hs;simp only[Bool.and_eq_true,beq_iff_eq,Bool.not_eq_true'] at q;obtain⟨⟨⟨⟨e1,e2⟩,hdel⟩,hdc⟩,ht⟩:=q;subst e1 e2;obtain⟨nm,bs,mro,ns,qn,hd,sn,sub,ab,col,del⟩:=cd;dsimp only at hm hdel hdc;subst hm hdel hdc
     have e3:sl = #[k0,k1,k2,k3,some (.builtin "ValueError.__new__"),k5]:=by obtain⟨l⟩:=sl;simp only at hs;rw[hs]
     subst e3;exact⟨nm,qn,ns,bs,bm,sn,sub,ab,col,dd,k0,k1,k2,k3,k5,ho,ht⟩
   cases q
 cases q
theorem a04 (self:Value){h:Heap}{l:List Value}(T:OwnTail h xB l):refuseLoop self "__setattr__" l=pure ():=by
 induction T with
 |base=>exact PySem.F.store_ValueError.passes self
 |own _ _ _ _ ih=>rw[refuseLoop_ref];exact ih
theorem ak5 {h:Heap}{l:List Value}(T:OwnTail h xB l):l.contains (.type "BaseException")=true:=T.hasType (by decide +kernel)
abbrev ax9 (rest:List Value):Obj:={cls:=.type "tuple",data:=.seq rest.toArray}
abbrev ai9 (C t:Addr):Obj:={cls:=.ref C,data:=.fields #[.ref t,.none,.none,.none,.bool false,.none]}
section
variable {prog:Program}{w:World}{A:Around}{E:Value->Shared->Prop}{h:Heap}{g:Array GenState}{d:Drawn}{t:Nat}{os:OsState}{K:W.Frag}{C fI:Addr}{rest:List Value}
theorem af0 {Q:Fin->Shared->Prop}(X:K.In h)(q:av0 K C=true)(hi:W.findIn K (.ref C) "__init__" = some (some (.ref fI)))(ht:W.typeIn K (.ref fI)=some (.type "function"))(hr:rest.length<=sizeLine)
  (hq:wpAny (model prog w) A (call (.ref fI) (.ref (h.objs.size+1) :: rest)) (λr s'=>r = .none/\Q (.done (.ret (.ref (h.objs.size+1)))) s') E ⟨(h.push (ax9 rest)).push (ai9 C h.objs.size),g,d,t,os⟩) :
  wpAny (model prog w) A (Builtin.«type.__call__» ⟨.ref C :: rest,[]⟩) Q E ⟨h,g,d,t,os⟩:=by
 obtain⟨nm,qn,N,bs,bm,sn,sub,ab,col,dd,k0,k1,k2,k3,k5,hl,htl⟩:=La q;have F:=PySem.F.excBase_ValueError;have T:OwnTail h xB bm:=A2R X htl;have hC:=X _ _ hl
 repeat (first | (with_reducible refine A2F hC ?_) | (with_reducible refine wpAny_madeBy_exc hC ?_) | wp_step)
 refine codeAny_call_builtin_code (A5E _ F.quiet) (wpAny_check_new_subT F T hC (codeAny_exc_new_subT F T hC ?_ hr));show wpAny _ _ _ _ _ _;have X1:K.In ((h.push (ax9 rest)).push (ai9 C h.objs.size)):=X.keeps λb o e=>A01 _ (A01 _ e);have hC1:=X1 _ _ hl;have hg1:((h.push (ax9 rest)).push (ai9 C h.objs.size)).get? (h.objs.size+1)=some (ai9 C h.objs.size):=by heap_get
 have hcC:(Value.ref C :: bm).contains (.ref C)=true:=by simp
 unfold isInstance
 repeat (first | (with_reducible refine A2F hg1 ?_) | (with_reducible refine A57 hC1 ?_;rw[hcC]) | wp_step)
 show wpAny _ _ (typeLookup (.ref C) _) _ _ _;refine(A2X (M:=model prog w) X1 hi).at ?_;refine A20 (A03 ((W.bind_fn X1 _ ht).at ?_));refine A03 (A1X hq (λr s' hr'=>?_) λ_ _ x=>x);obtain⟨rfl,hQ⟩:=hr'
 wp_walk
 exact hQ
theorem at0 {Q:Value->Shared->Prop}(X:K.In h)(q:av0 K C=true)(hi:W.findIn K (.ref C) "__init__" = some (some (.ref fI)))(ht:W.typeIn K (.ref fI)=some (.type "function"))(hr:rest.length<=sizeLine)
  (hq:wpAny (model prog w) (A.under (.builtin "type.__call__" ⟨.ref C :: rest,[]⟩)) (call (.ref fI) (.ref (h.objs.size+1) :: rest)) (λr s'=>r = .none/\Q (.ref (h.objs.size+1)) s') E ⟨(h.push (ax9 rest)).push (ai9 C h.objs.size),g,d,t,os⟩) :
  wpAny (model prog w) A (call (.ref C) rest) Q E ⟨h,g,d,t,os⟩:=by
 obtain⟨nm,qn,N,bs,bm,sn,sub,ab,col,dd,k0,k1,k2,k3,k5,hl,htl⟩:=La q;have hC:=X _ _ hl;have f1:=tc_lookup;have f2:=tc_bind (.ref C);have tt:(⟨h,g,d,t,os⟩:Shared).TypeIs (.ref C) "type":=⟨_,hC,rfl⟩;refine A3I (codeAny_of_tree ?_);show wpAny _ _ (callAny (.ref C) _) _ _ _
 repeat (any_goals (first | assumption | (with_reducible refine A2F hC ?_) | wp_step))
 refine⟨rfl,codeAny_call_builtin_at (A5E _ (by decide +kernel)) entry_typeCall (wpAny_check_type_call_sub hC (af0 X q hi ht hr ?_))⟩;exact hq
end
end L2
namespace L2
open PySem PySem.Spec PyProof.Rows
open PySem PySem.Spec PyProof.Rows Builtin Builtin.ObjectAttr
structure XC (K:W.Frag)(C:Addr):Prop where
 ex:av0 K C=true
 sa:W.findIn K (.ref C) "__setattr__" = some (some (.builtin "object.__setattr__"))
 ga:W.findIn K (.ref C) "__getattribute__" = some (some (.builtin "BaseException.__getattribute__"))
 gt:W.findIn K (.ref C) "__getattr__" = some none
 cl:W.findIn K (.ref C) "__class__" = some (some (.builtin "object.__class__"))
 cg:W.specialIn K (.builtin "object.__class__") "__get__" = some (some (.builtin "getset_descriptor.__get__"))
 ct:W.takesIn K (.builtin "object.__class__")=some true
section
variable {prog:Program}{w:World}{A:Around}{E:Value->Shared->Prop}{s:Shared}{K:W.Frag}{C x:Addr}{name:Str}{v:Value}
theorem XC.cls (c:XC K C):∃ cd,W.clsIn K C=some cd/\cd.hasDict=true/\∃ bm,cd.mro = .ref C :: bm/\W.tailIn K xB bm=true:=by obtain⟨nm,qn,N,bs,bm,sn,sub,ab,col,dd,k0,k1,k2,k3,k5,hl,htl⟩:=La c.ex;exact⟨_,by unfold W.clsIn;rw[hl],rfl,bm,rfl,htl⟩
theorem XC.mro (c:XC K C){h:Heap}(X:K.In h){T:String}(hT:xB.contains (.type T)=true):W.mroIn K C (.type T)=some true:=by obtain⟨cd,hc,_,bm,hm,ht⟩:=c.cls;unfold W.mroIn;rw[hc,Option.bind_some,hm,if_neg (by simp)];rw[A3A,(A2R X ht).hasType hT,Bool.or_true]
theorem aj8 {R:Result->Shared->Prop}{ox:Obj}{od:Option Obj}{tk:Tok}(c:XC K C)(X:K.In s.heap)(I:W.InstAt s.heap x ox C od)(ht:W.findIn K (.ref C) name=some none)
  (h:∀ b,wpAny (model prog w) A.in1 (storeInOwnDict (.ref x) (.ref C) (.str name tk) name v b)
   (λfin s'=>match fin with | .done f=>R (.ok f) s' | .again c'=>c'.quiet=true/\codeAny (model prog w) A c' R s') (λe s'=>R (.error e) s') s) :
  codeAny (model prog w) A (.call (.builtin "object.__setattr__") ⟨[.ref x,.str name tk,v],[]⟩) R s:=by
 have SF:=PySem.F.store_object;obtain⟨cd,hc,hd,bm,hmr,htl⟩:=c.cls;have T:=A2R X htl;have sub:W.Looks (model prog w) s.heap (isInstance (.ref x) (.type "object")) true:=I.type.andThen (A58 X (c.mro X (by decide +kernel)));refine A4Y SF.slot.plain SF.entry (@PySem.W.check_slot (model prog w) _ _ s "object.__setattr__" "object" "__setattr__" (.ref x) [.str name tk,v] [] _ SF.kind SF.split sub (SF.args (.ref x) (.str name tk) v) ?_);have hm:W.Looks (model prog w) s.heap (mroOf (.ref C)) cd.mro:=(A3U X hc).andThen .now;have l3:W.Looks (model prog w) s.heap (storeTaker? none) none:=.now;rw[W.osa_eq,refuse_eq];refine A03 (A03 (I.type.here (A03 (hm.here ?_))));rw[hmr,refuseLoop_ref,a04 _ T];refine A09 (A03 (I.type.here (A03 ((A2X X ht).here (A03 (l3.here ?_))))));exact h _
theorem aw1 {Q:Unit->Shared->Prop}{vs:Array Value}{sl:Array (Option Value)}(c:XC K C)(X:K.In s.heap)(hx:s.heap.get? x=some ⟨.ref C,none,.fields vs,sl⟩)(ht:W.findIn K (.ref C) name=some none)
  (hq:∀ h',h'.Ns1 s.heap.objs.size (λy=>if y=name then some v else none)->h'.get? x=some ⟨.ref C,some s.heap.objs.size,.fields vs,sl⟩->(∀ b o,b≠x->s.heap.get? b=some o->h'.get? b=some o)->Q () {s with heap:=h',toks:=s.toks+2}) :
  wpAny (model prog w) A (setAttr (.ref x) name v) Q E s:=by
 have J:W.InstAt s.heap x ⟨.ref C,none,.fields vs,sl⟩ C none:=⟨hx,rfl,rfl,A1J⟩;obtain⟨cd,hc,hd,bm,hmr,htl⟩:=c.cls;refine W.set_plain X J c.sa (aj8 (s:={s with toks:=s.toks+1}) c X J ht λb=>?_)
 refine A03 (A09 (A03 (A03 (A4Z hx (A03 (A5A (s:={s with toks:=s.toks+1}) (A3U X hc) ?_))))))
 rw[hd];have hx1:(s.heap.push {cls:=.type "dict",data:=.dict #[]}).get? x=some ⟨.ref C,none,.fields vs,sl⟩:=A01 _ hx;have hxs:x≠s.heap.objs.size:=A0K (A06 hx);refine A03 (wpAny_alloc' ?_);refine A03 (wpAny_update' hx1 ?_);refine A09 ?_
 have hgd:((s.heap.push {cls:=.type "dict",data:=.dict #[]}).update x λo=>{o with dict:=some s.heap.objs.size}).get? s.heap.objs.size=some {cls:=.type "dict",data:=.dict #[]}:=
  (Heap.get?_update_ne _ _ _ _ hxs.symm).trans (Heap.get?_push_at rfl rfl)
 have hnd:((s.heap.push {cls:=.type "dict",data:=.dict #[]}).update x λo=>{o with dict:=some s.heap.objs.size}).Ns s.heap.objs.size (λ_=>none):=
  ⟨_,#[],_,hgd,rfl,λe he=>absurd he (by simp),λ_=>rfl⟩
 show wpAny _ _ (storeInDict s.heap.objs.size (.str name _) name v) _ _ _;unfold storeInDict newKeyGuard;refine A03 (A09 (A03 (wpAny_nsSet1 (Heap.Ns1.of_empty hnd) λh' hn' hs=>?_)));obtain⟨oD,esD,epD,hoD,hdD,hcD⟩:=hn'.count (Within.cons name v Within.nil);refine A03 (wpAny_lookBehind hoD (by rw[hdD];exact pastItsLine_dict (A0L hcD (by rw[A0N,List.length_nil,A1F];omega))) ?_);refine A09 (hq h' hn' ((hs.2 x hxs).trans (A1W _ hx1 rfl)) λb o hb hbo=>?_);exact(hs.2 b (A0K (A06 hbo))).trans ((Heap.get?_update_ne _ _ _ _ hb).trans (A01 _ hbo))
theorem as9 {Q:Unit->Shared->Prop}{dx:Addr}{mA:Str->Option Value}{ns:List Str}{vs:Array Value}{sl:Array (Option Value)}(c:XC K C)(X:K.In s.heap)(hx:s.heap.get? x=some ⟨.ref C,some dx,.fields vs,sl⟩)(hn:s.heap.Ns1 dx mA)
  (hw:Within mA ns) (hz:ns.length<=sizeLine) (ht:W.findIn K (.ref C) name=some none)
  (hq:∀ h',h'.Ns1 dx (λy=>if y=name then some v else mA y)->Heap.SameBut dx s.heap h'->Q () {s with heap:=h',toks:=s.toks+2}) :
  wpAny (model prog w) A (setAttr (.ref x) name v) Q E s:=by
 obtain⟨od,_,_,hod,_⟩:=id hn;have J:W.InstAt s.heap x ⟨.ref C,some dx,.fields vs,sl⟩ C (some od):=⟨hx,rfl,rfl,hod⟩;obtain⟨cd,hc,hd,bm,hmr,htl⟩:=c.cls;refine W.set_plain X J c.sa (aj8 (s:={s with toks:=s.toks+1}) c X J ht λb=>?_)
 refine A03 (A09 (A03 (A03 (A4Z hx (A03 (A5A (s:={s with toks:=s.toks+1}) (A3U X hc) ?_))))))
 rw[hd];refine A09 (a:=some dx) (A03 (A09 (A03 ?_)));refine wpAny_nsSet1 (s:={s with toks:=s.toks+1}) hn λh' hn2 hs2=>?_
 obtain⟨oD,esD,epD,hoD,hdD,hcD⟩:=hn2.count (Within.cons name v hw);refine A03 (wpAny_lookBehind hoD (by rw[hdD];exact pastItsLine_dict (A0L hcD (by rw[A0N];omega))) ?_);exact A09 (hq _ hn2 hs2)
theorem af3 {M:Model}{ox:Obj}{od:Option Obj}{nameV:Value}{Q:Unit->Shared->Prop}(c:XC K C)(X:K.In s.heap)(I:W.InstAt s.heap x ox C od)(hq:Q () s) :
  wpAny M A (checkBuiltinCall "BaseException.__getattribute__" ⟨[.ref x,nameV],[]⟩) Q E s:=by
 have sub:W.Looks M s.heap (isInstance (.ref x) (.type "BaseException")) true:=I.type.andThen (A58 X (c.mro X (by decide +kernel)));exact @PySem.W.check_slot M _ _ s "BaseException.__getattribute__" "BaseException" "__getattribute__" (.ref x) [nameV] [] _ (by decide +kernel) (by decide +kernel) sub (PySem.F.args_bexc_ga (.ref x) nameV) hq
theorem aF5 {fill expr:Bool}{tk:Tok}{Q:Value->Shared->Prop}{ox:Obj}{od:Option Obj}(c:XC K C)(X:K.In s.heap)(I:W.InstAt s.heap x ox C od)
  (h:wpAny (model prog w) A.in1 (Builtin.«object.__getattribute__» ⟨[.ref x,.str name tk],[]⟩)
   (λfin s'=>match fin with | .done (.ret v)=>wpAny (model prog w) A (handedOut v) Q E s' | _=>False) (λ_ _=>False) s):wpAny (model prog w) A (getAttrBy (.ref x) (.str name tk) fill expr) Q E s:=by
 obtain⟨hh,g,d,t,os⟩:=s;have l0:=I.type (M:=model prog w);have l1:=A2X (M:=model prog w) X c.ga;have l2:=A2X (M:=model prog w) X c.gt;have f3:=PySem.F.excAttr_ValueError.ga.bind (.ref x);have e2:(Value.builtin "BaseException.__getattribute__" == Value.builtin "object.__getattribute__")=false:=by decide +kernel
 unfold getAttrBy;refine A20 (A03 (l0.at (A03 (l1.at ?_))));show wpAny _ _ (if(onTheHeap (Value.ref C)&&Value.builtin "BaseException.__getattribute__" == Value.builtin "object.__getattribute__")=true then _ else _) _ _ _
 rw[e2,A50,A0J ∅];unfold getAttrByItsOwn hookBefore;rw[A0R (show onTheHeap (Value.ref C)=true from rfl)];refine A03 (l2.at (A03 (wpAny_attempt (A20 ?_))));unfold callGetattribute;rw[A0J (by cases expr<;>decide)]
 unfold boundAndCalled;rw[f3];refine A03 (A09 (A3I (A4Y PySem.F.excAttr_ValueError.ga.plain PySem.F.entry_bexc_ga (af3 (s:=⟨hh,g,d,t,os⟩) c X I ?_))));refine A1X h (λfin s' z=>?_) λ_ _ z=>z.elim;rcases fin with (_ | _ | _ | _) | _<;>first | exact z | exact z.elim
theorem aH2 {expr:Bool}{Q:Value->Shared->Prop}{ox od:Obj}(c:XC K C)(X:K.In s.heap)(I:W.InstAt s.heap x ox C (some od))(ht:W.findIn K (.ref C) name=some none)(hl:W.lookIn name od=some (some v))
  (hv:W.handedIn v=true) (h:Q v {s with toks:=s.toks+1}):wpAny (model prog w) A (getAttr (.ref x) name expr) Q E s:=by
 obtain⟨hh,g,d,t,os⟩:=s;obtain⟨cd,hc,hd,bm,hmr,htl⟩:=c.cls;have l0:=I.type (M:=model prog w)
 have hf:W.findObj K C (some od) name=some (.value v):=by unfold W.findObj W.ownOf;simp only[hc,ht,hd,hl,Option.bind_some,if_true]
 have l3:=W.looks_find (M:=model prog w) X I hf;unfold getAttr;refine A03 (wpAny_mkText (aF5 (s:=⟨hh,g,d,t+1,os⟩) c X I ?_));refine A03 (A09 (A03 (A09 (A03 (l0.at (A03 (l3.at ?_)))))));refine A09 ?_;show wpAny _ _ (handedOut v) _ _ _;rw[W.handedOut_of hv];exact A09 h
theorem ac9 {Q:Option Value->Shared->Prop}{ox:Obj}{od:Option Obj}(c:XC K C)(X:K.In s.heap)(I:W.InstAt s.heap x ox C od)(h:Q (some (.ref C)) {s with toks:=s.toks+1}) :
  wpAny (model prog w) A (getAttr? (.ref x) "__class__") Q E s:=by
 obtain⟨hh,g,d,t,os⟩:=s;obtain⟨cd,hc,hd,bm,hmr,htl⟩:=c.cls;have l0:=I.type (M:=model prog w)
 have hf:W.findObj K C od "__class__" = some (.bind (.builtin "getset_descriptor.__get__") (.builtin "object.__class__")):=by unfold W.findObj;simp only[hc,c.cl,c.cg,c.ct,Option.bind_some]
 have l3:=W.looks_find (M:=model prog w) X I hf;unfold getAttr? getAttrBy?;refine A03 (wpAny_mkText (A03 (wpAny_attempt ?_)));refine aF5 (s:=⟨hh,g,d,t+1,os⟩) c X I ?_;refine A03 (A09 (A03 (A09 (A03 (l0.at (A03 (l3.at ?_)))))));show wpAny _ _ (holding [Value.builtin "object.__class__"] (call (.builtin "getset_descriptor.__get__") [.builtin "object.__class__",.ref x,.ref C]) >>= ret) _ _ _;refine A03 (A20 (A3I (W.class_get (s:=⟨hh,g,d,t+1,os⟩) (ox:=ox) (od:=od) X I (c.mro X (by decide +kernel)) ?_)));refine A09 ?_;show wpAny _ _ (handedOut (.ref C)) _ _ _;rw[W.handedOut_of rfl];exact A09 (A09 h)
theorem Yg {od:Option Obj}{ox:Obj}(c:XC K C):W.KitX K (.ref x) (.ref C) (λh=>W.InstAt h x ox C od) where
 ty:=λ_ _ _ I=>I.type
 it:=λ_ _ X _=>by obtain⟨nm,qn,N,bs,bm,sn,sub,ab,col,dd,k0,k1,k2,k3,k5,hl,htl⟩:=La c.ex;intro A' Q' E' s' k q;unfold isType loadHead;exact A03 (A4Z (k _ _ (X _ _ hl)) (A09 q))
 ne:=λh tp dd its n sl X htp=>by obtain⟨nm,qn,N,bs,bm,sn,sub,ab,col,dd,k0,k1,k2,k3,k5,hl,htl⟩:=La c.ex;refine Bool.eq_false_iff.mpr λq=>?_;have e:C=tp:=A5G (A24.mp q);subst e;have z:=congrArg Obj.cls (A0O ((X _ _ hl).symm.trans htp));exact absurd (Value.type.inj z) ∅
 ca:=λX I k=>ac9 c X I k
end
end L2
namespace L2
open PySem PySem.Spec PyProof.Rows
def exG (n:Bool)(a C:Addr)(od:Option Addr):HO:=.ext λh=>∃ vs sl,h.get? a=some ⟨.ref C,od,.fields vs,sl⟩/\(n=true->vs[1]? = some .none)
abbrev exO (a C:Addr)(od:Option Addr):HO:=exG true a C od
def xdO (dx:Addr)(fs:List (Str×V)):HO:=.ext λh=>∃ mA,h.Ns1 dx mA/\∀ f,RelO (fs.lookup f) (mA f)
section
variable {P:Program}{w:World}{H:Hp}{h:Heap}{a C dx:Addr}{od:Option Addr}{fs:List (Str×V)}
theorem exG_ok {n:Bool}:ObjOk P w H h a (exG n a C od)↔∃ vs sl,h.get? a=some ⟨.ref C,od,.fields vs,sl⟩/\(n=true->vs[1]? = some .none):=
 ⟨λx=>x.1,λ⟨vs,sl,e,z⟩=>⟨⟨vs,sl,e,z⟩,⟨_,e⟩,λh1 h2 ⟨vs,sl,e,z⟩ k=>⟨vs,sl,k _ e,z⟩⟩⟩
theorem exO_ok:ObjOk P w H h a (exO a C od)↔∃ vs sl,h.get? a=some ⟨.ref C,od,.fields vs,sl⟩/\(true=true->vs[1]? = some .none):=exG_ok
theorem xdO_ok:ObjOk P w H h dx (xdO dx fs)↔∃ mA,h.Ns1 dx mA/\∀ f,RelO (fs.lookup f) (mA f):=
 ⟨λx=>x.1,λ⟨mA,n,r⟩=>⟨⟨mA,n,r⟩,(let ⟨o,_,_,e,_⟩:=n;⟨o,e⟩),λh1 h2 ⟨mA,n,r⟩ k=>⟨mA,(let ⟨o,es,ep,e,z⟩:=n;⟨o,es,ep,k _ e,z⟩),r⟩⟩⟩
end
def Fv (K:W.Frag)(C B:Addr):Bool:=(W.clsIn K C).any λcd=>cd.mro == .ref C :: .ref B :: xB
section
variable {K:W.Frag}{C B D:Addr}
theorem XC.ty (c:XC K C):W.typeIn K (.ref C)=some (.type "type"):=by obtain⟨nm,qn,N,bs,bm,sn,sub,ab,col,dd,k0,k1,k2,k3,k5,hl,htl⟩:=La c.ex;show Option.map (λx=>x.cls) (List.lookup C K)=_;rw[hl];rfl
theorem Uh (c:XC K C)(hm:Fv K C B=true)(d:XC K D):W.kitOne K (.ref C) (.ref D)=some (C==D||D==B):=by
 unfold W.kitOne
 by_cases e:C=D
 . subst e;simp
 have e1:(Value.ref C==Value.ref D)=false:=A0Y.mpr λq=>e (A5G q);have e2:(C==D)=false:=A0Y.mpr e;rw[A0J (by rw[e1];decide),e2,A4C];unfold W.kitCls;obtain⟨cd,hc,_⟩:=d.cls;dsimp only;rw[A0R (by rw[hc,d.ty];rfl)];show W.mroIn K C (.ref D)=_;obtain⟨cd,hc,hx⟩:=A4E hm;unfold W.mroIn;rw[hc,Option.bind_some,beq_iff_eq.mp hx,if_neg (by simp)];rw[A3A,A3A,show xB.contains (Value.ref D)=false from rfl,Bool.or_false];congr 1;rw[show(Value.ref D==Value.ref C)=false from A0Y.mpr λq=>e (A5G q).symm,A4C]
 by_cases eb:D=B
 . subst eb;simp
 rw[show(D==B)=false from A0Y.mpr eb,A0Y.mpr λq=>eb (A5G q)]
end
section
variable {X:Cx}{pins:List (Addr×Obj)}{σ:St}{H:Hp}{s:Shared}{a C dx:Addr}{fs:List (Str×V)}{f:Str}{v:V}{A:Around}{E:Value->Shared->Prop}
theorem at8 {n' b:Bool}{Q:Value->Shared->Prop}(I:Inv X pins σ H s)(e:H a=some (exG n' a C (some dx)))(ed:H dx=some (xdO dx fs))(c:XC X.K C)(n:NoAttr X.K C f)(l:fs.lookup f=some v)
  (h:∀ u s',Inv X pins σ H s'->RelV v u->Q u s'):wpAny (model X.prog X.w) A (getAttr (.ref a) f b) Q E s:=by
 obtain⟨vs,sl,e1,_⟩:=exG_ok.mp (I.hok a _ e);obtain⟨mA,hn,r⟩:=xdO_ok.mp (I.hok dx _ ed);obtain⟨u,hu,ru⟩:=RelO.some_of (v:=v) (o:=mA f) (by rw[<- l];exact r f);obtain⟨od,hod,hl⟩:=Tl hn;exact aH2 c I.kIn ⟨e1,rfl,rfl,hod⟩ n (by rw[hl,hu]) (Sb ru) (h u _ (I.tok _) ru)
theorem a88 {mA:Str->Option Value}(r:∀ f,RelO (fs.lookup f) (mA f)):PySem.Within mA (fs.map (·.1)):=λg hg=>by
 cases q:fs.lookup g with
 |none=>exact absurd (RelO.none_of (by rw[<- q];exact r g)) hg
 |some v=>exact A0E.mpr ⟨(g,v),A2I q,rfl⟩
theorem aa8 {y:V}{u:Value}{Q:Unit->Shared->Prop}(I:Inv X pins σ H s)(e:H a=some (exO a C none))(c:XC X.K C)(n:NoAttr X.K C f)(ry:RelV y u)
  (h:∀ dx s',H dx=none->dx≠a->Inv X pins σ (upd (upd H dx (xdO dx [(f,y)])) a (exO a C (some dx))) s'->Q () s'):wpAny (model X.prog X.w) A (setAttr (.ref a) f u) Q E s:=by
 obtain⟨vs,sl,e1,e1n⟩:=exO_ok.mp (I.hok a _ e);refine aw1 c I.kIn e1 n λh' hn he hk=>?_;have hf:H s.heap.objs.size=none:=I.hok.fresh (A07 _);have hne:s.heap.objs.size≠a:=A3K (A06 e1);have na:∀ b,H b=none->b≠a:=λb q z=>by rw[z,e] at q;cases q
 have nd:∀ b u,H b=some u->b≠s.heap.objs.size:=λb u q z=>by rw[z,hf] at q;cases q
 have nb:∀ b o,s.heap.get? b=some o->b≠s.heap.objs.size:=λb o q=>A0K (A06 q);have hu:∀ b o,H b=some o->b≠a->upd (upd H s.heap.objs.size (xdO s.heap.objs.size [(f,y)])) a (exO a C (some s.heap.objs.size)) b=some o:=λb o q z=>by rw[Ah z,Ah (nd b o q)];exact q
 refine h _ _ hf hne (I.un ⟨λb o q z _ _=>hk b o (na b z) q,λb o q z _ _=>⟨o.slots,hk b o (na b z) q⟩,λb o q z _=>by rw[Ah (na b z),Ah (nb b o q)];exact z,λb o q _=>?_,
  λb xs q=>hu b _ q λz=>?_,λb o u q=>hu b _ q λz=>?_,λb ps q=>⟨#[],?_⟩⟩ λb o q=>?_)
 . by_cases z:b=a
   . subst z;exact⟨_,he⟩
   exact⟨o,hk b o z q⟩
 . rw[z,e] at q;cases q
 . rw[z,e] at q;cases q
 . rw[Array.append_empty];exact hu b _ q λz=>by rw[z,e] at q;cases q
 by_cases z:b=a
 . subst z;rw[A9] at q;cases q;exact exO_ok.mpr ⟨_,_,he,e1n⟩
 rw[Ah z] at q
 by_cases z2:b=s.heap.objs.size
 . subst z2;rw[A9] at q;cases q;refine xdO_ok.mpr ⟨_,hn,λg=>?_⟩;show RelO (List.lookup g [(f,y)]) (if g=f then some u else none)
   by_cases q:g=f
   . have hb:(g==f)=true:=A24.mpr q;simp only[List.lookup,hb,if_pos q];exact ry
   have hb:(g==f)=false:=A0Y.mpr q;simp only[List.lookup,hb,if_neg q];exact True.intro
 rw[Ah z2] at q;refine(I.hok b o q).stay (λc v hc r=>hk c v (λz3=>?_) r) (λc r=>hu c _ r λz3=>?_) λc xs r=>hu c _ r λz3=>?_
 . subst z3;rcases hc with hc|hc
   . exact z hc.symm
   rw[e] at hc;cases hc
 . rw[z3,e] at r;cases r
 rw[z3,e] at r;cases r
theorem ab6 {y:V}{u:Value}{Q:Unit->Shared->Prop}(I:Inv X pins σ H s)(e:H a=some (exO a C (some dx)))(ed:H dx=some (xdO dx fs))(c:XC X.K C)(n:NoAttr X.K C f)(hl:fs.length<1000)(ry:RelV y u)
  (h:∀ s',Inv X pins σ (upd H dx (xdO dx (M0 f y fs))) s'->Q () s'):wpAny (model X.prog X.w) A (setAttr (.ref a) f u) Q E s:=by
 obtain⟨vs,sl,e1,e1n⟩:=exO_ok.mp (I.hok a _ e);obtain⟨mA,hn,r⟩:=xdO_ok.mp (I.hok dx _ ed);refine as9 c I.kIn e1 hn (a88 r) (by rw[A02,A1F];omega) n λh' hn' hs=>h _ ?_;have hd:∃ o,h'.get? dx=some o:=let ⟨o,_,_,e',_⟩:=hn';⟨o,e'⟩;refine I.write (x:=dx) (e:=dx) (by rw[ed];exact A1J) (.inl rfl) (λb q hb z=>(hs.2 b hb).trans z) hd (xdO_ok.mpr ⟨_,hn',λg=>?_⟩);rw[Jy]
 by_cases q:g=f
 . rw[A0R q];show RelO (some y) (if g=f then some u else mA g)
   rw[A0R q];exact ry
 rw[A0J q];show RelO _ (if g=f then some u else mA g)
 rw[A0J q];exact r g
end
def av6 (K:W.Frag)(f:Str):V->Hp->VK->Prop:=λx H1 Q=>∃ n a C dx fs v,x = .ref a/\H1 a=some (exG n a C (some dx))/\H1 dx=some (xdO dx fs)/\XC K C/\NoAttr K C f/\fs.lookup f=some v/\Q v H1
def av2 (K:W.Frag)(ta:TE)(f:Str):TE:=fun σ H Q=>ta σ H λx H1=>av6 K f x H1 Q
def aL8 (K:W.Frag)(f:Str)(y:V):V->Hp->(Hp->Prop)->Prop:=λx H2 R=>∃ a C,x = .ref a/\XC K C/\NoAttr K C f /\
 ((H2 a=some (exO a C none)/\∀ dx,H2 dx=none->dx≠a->R (upd (upd H2 dx (xdO dx [(f,y)])) a (exO a C (some dx)))) \/
   ∃ dx fs,H2 a=some (exO a C (some dx))/\H2 dx=some (xdO dx fs)/\fs.length<1000/\R (upd H2 dx (xdO dx (M0 f y fs))))
def av3 (K:W.Frag)(ta tv:TE)(f:Str):TS:=λD σ H=>tv σ H λy H1=>ta σ H1 λx H2=>aL8 K f y x H2 λH3=>D.nx σ H3
section
variable {X:Cx}{o e value:Expr}{f:Str}{pos pos' tpos:Pos}{ta tv:TE}
theorem av4 (he:PE X e ta)(hb:attributeBase e f X.env (eval e X.env)=eval e X.env):PE X (.Attribute e f pos) (av2 X.K ta f):=by intro pins s σ H Q I h;refine Y4 hb (thn (he pins s σ H _ I h) λu s1 ⟨x,H1,I1,rx,n',a,C,dx,fs,v,ex,ea,ed,c,n,l,q⟩=>?_);subst ex;obtain rfl:u=Value.ref a:=rx;exact at8 I1 ea ed c n l λu' s2 I2 ru=>⟨v,H1,I2,ru,q⟩
theorem aq2 (ha:PE X o ta)(hv:PE X value tv)(hs:swapsWith value (some (.Attribute o f pos')) pos.line X.env=pure false):PS X (.Assign [.Attribute o f pos'] value pos) (av3 X.K ta tv f):=by
 intro pins s σ H D I h;refine plainObj_wpAny_Assign_Attribute (thn (hv pins s σ H _ I h) λu s1 ⟨y,H1,I1,ry,q⟩=>thn (ha pins s1 σ H1 _ I1 q) λov s2 ⟨x,H2,I2,rx,a,C,ex,c,n,q2⟩=>?_) hs;subst ex;obtain rfl:ov=Value.ref a:=rx;rcases q2 with ⟨ea,q2⟩|⟨dx,fs,ea,ed,l,q2⟩
 . exact aa8 I2 ea c n ry λdx s3 h1 h2 I3=>⟨σ,_,I3,q2 dx h1 h2⟩
 exact ab6 I2 ea ed c n l ry λs3 I3=>⟨σ,_,I3,q2⟩
end
def ExB (n:Bool)(H:Hp)(a C:Addr)(fs:List (Str×V)):Prop:=(fs=[]/\H a=some (exG n a C none))\/∃ dx,dx≠a/\H a=some (exG n a C (some dx))/\H dx=some (xdO dx fs)
abbrev ExA (H:Hp)(a C:Addr)(fs:List (Str×V)):Prop:=ExB true H a C fs
theorem ExB.inst {n:Bool}{P:Program}{w:World}{H:Hp}{h:Heap}{a C:Addr}{fs:List (Str×V)}(e:ExB n H a C fs)(x:HOk P w H h):∃ ox od,W.InstAt h a ox C od:=by
 rcases e with ⟨_,e⟩|⟨dx,_,e,d⟩
 . obtain⟨vs,sl,q,_⟩:=exG_ok.mp (x a _ e);exact⟨_,none,q,rfl,rfl,A1J⟩
 obtain⟨vs,sl,q,_⟩:=exG_ok.mp (x a _ e);obtain⟨mA,hn,_⟩:=xdO_ok.mp (x dx _ d);obtain⟨o,_,_,ho,_⟩:=hn;exact⟨_,some o,q,rfl,rfl,ho⟩
theorem ExB.same {n:Bool}{H H':Hp}{a C:Addr}{fs:List (Str×V)}(e:ExB n H a C fs)(s:∀ b o,H b=some o->H' b=some o):ExB n H' a C fs:=by
 rcases e with ⟨e1,e⟩|⟨dx,ne,e,d⟩
 . exact .inl ⟨e1,s _ _ e⟩
 exact .inr ⟨dx,ne,s _ _ e,s _ _ d⟩
def aH5 (K:W.Frag):List V->Hp->VK->Prop:=λxs H Q=>∃ n a C fs b,ExB n H a C fs/\XC K C /\
 ((∃ c,xs=[.ref a,.ref c]/\W.kitOne K (.ref C) (.ref c)=some b)\/(∃ c,xs=[.ref a,.ty c]/\W.kitOne K (.ref C) (.type c)=some b) \/
   ∃(p:Addr) (cs:List Addr),xs=[.ref a,.ref p]/\H p=some (.tup (cs.map V.ref))/\W.kitAny K (.ref C) (cs.map Value.ref)=some b)/\Q (.bl b) H
theorem Rp:∀ {cs:List Addr} {us:List Value},Vals (cs.map V.ref) us->us=cs.map Value.ref
 | [], us,r=>by cases us with | nil=>rfl | cons _ _=>cases r
 |c :: cs,us,r=>by
   cases us with
   |nil=>cases r
   |cons u us=>
     cases r with
     |cons r1 r2=>rw[A0H,Rp r2,show u=Value.ref c from r1]
theorem a98 {X:Cx}:CallR X (.builtin "isinstance") (aH5 X.K):=by
 intro pins s σ H xs us Q I r h;obtain⟨n,a,C,fs,b,ea,c,hc,q⟩:=h;obtain⟨ox,od,J⟩:=ea.inst I.hok;rcases hc with ⟨c',rfl,e⟩|⟨c',rfl,e⟩|⟨p,cs,rfl,hp,e⟩
 . obtain⟨u,w',rfl,r1,r2⟩:=Rl r
   cases r1;cases r2;exact A1E (Yg c) I.kIn J e (λz=>nomatch z) λtk=>⟨.bl _,H,I.tok _,rfl,q⟩
 . obtain⟨u,w',rfl,r1,r2⟩:=Rl r
   cases r1;cases r2;exact A1E (Yg c) I.kIn J e (λz=>nomatch z) λtk=>⟨.bl _,H,I.tok _,rfl,q⟩
 obtain⟨u,w',rfl,r1,r2⟩:=Rl r
 cases r1;cases r2;obtain⟨_,its,ri,ob,g1,g2,⟨n,g3⟩,g4⟩:=(show ObjOk X.prog X.w H s.heap p (.tup (cs.map V.ref)) from I.hok p _ hp);obtain rfl:=Rp ri;obtain⟨oc,odd,oda,osl⟩:=ob;dsimp only at g2 g3 g4;subst g2 g3 g4;exact A2G (Yg c) I.kIn J g1 e (λz=>nomatch z) λtk=>⟨.bl _,H,I.tok _,rfl,q⟩
theorem Cr {X:Cx}{K:W.Frag}(hK:X.K=K:=by ac_nf):CallR X (.builtin "isinstance") (aH5 K):=hK ▸ a98
def Mkx (P:Program)(w:World)(K:W.Frag)(mg:Str->Option Value)(base:Heap)(k:Nat)(C:Addr)(x:Str)(ps:List Str)(sp:Sp):Prop:=
 ∃ f fd,FnOk P w K mg base CX0 k f fd ps sp/\XC K C/\W.findIn K (.ref C) "__init__" = some (some (.ref f))/\W.isFn K (.ref f)=true/\W.keepIn K (.ref C)=true/\mg x=some (.ref C)/\Binds K fd ps []
def Xq (K:W.Frag)(C:Addr):Bool:=match K.lookup C with
 |some ⟨_,_,.cls cd,_⟩=>W.nsOkIn K cd.ns&&W.nsIn K cd.ns "__init__" == some none
 |_=>false
structure ax5 (K:W.Frag)(mg:Str->Option Value)(C:Addr)(x:Str):Prop where
 xc:XC K C
 no:Xq K C=true
 kp:W.keepIn K (.ref C)=true
 gl:mg x=some (.ref C)
def aO5 (C:Addr)(sp:Sp)(vs:List V)(H1:Hp)(Q:VK):Prop:=vs.length<=8/\∀ x,H1 x=none->sp (.ref x :: vs) (upd H1 x (exO x C none)) (λv H2=>v = .non/\Q (.ref x) H2) E0
def aT1 (C:Addr)(sp:Sp)(t:TA):TE:=fun σ H Q=>t σ H λvs H1=>aO5 C sp vs H1 Q
def at1 (C:Addr)(vs:List V)(H1:Hp)(Q:VK):Prop:=vs.length<=8/\∀ x,H1 x=none->Q (.ref x) (upd H1 x (exO x C none))
def aI5 (C:Addr) (t:TA):TE:=fun σ H Q=>t σ H λvs H1=>at1 C vs H1 Q
theorem Uk {P:Program}{w:World}{H:Hp}{h:Heap}{a:Addr}(x:HOk P w H h)(n:h.get? a=none):H a=none:=by
 cases q:H a with
 |none=>rfl
 |some o=>
   have t:∀ o,ObjOk P w H h a o->∃ u,h.get? a=some u:=λo z=>by
    cases o with
    |lst xs=>obtain⟨_,_,_,_,e⟩:=z;exact⟨_,e⟩
    |tup xs=>obtain⟨_,_,_,_,e,_⟩:=z;exact⟨_,e⟩
    |dK kvs=>obtain⟨_,_,_,_,o,_,_,e,_⟩:=z;exact⟨_,e⟩
    |dT kvs=>obtain⟨_,_,_,_,o,_,_,e,_⟩:=z;exact⟨_,e⟩
    |set S n=>obtain⟨o,_,_,_,e,_⟩:=z;exact⟨_,e⟩
    |ins C dx fs=>obtain⟨_,_,_,e,_⟩:=z;exact⟨_,e⟩
    |own y=>obtain⟨_,e⟩:=z;exact⟨_,e⟩
    |xd fs=>obtain⟨_,⟨_,_,_,e,_⟩,_⟩:=z;exact⟨_,e⟩
    |rng lo hi=>obtain⟨_,_,_,e⟩:=z;exact⟨_,e⟩
    |frz ob u=>obtain⟨e,_⟩:=z;exact⟨_,e⟩
    |tbl ps=>exact⟨_,z⟩
    |met f y=>exact⟨_,z⟩
    |ext φ=>obtain⟨_,e,_⟩:=z;exact e
   obtain⟨u,e⟩:=t o (x a o q);rw[n] at e;cases e
theorem Inv.laidN {X:Cx}{pins:List (Addr×Obj)}{σ:St}{H:Hp}{s:Shared}{h':Heap}{a:Addr}{o:HO}{t':Nat}(I:Inv X pins σ H s)(k:∀ b u,s.heap.get? b=some u->h'.get? b=some u)(n:s.heap.get? a=none)
  (new:ObjOk X.prog X.w (upd H a o) h' a o):Inv X pins σ (upd H a o) {s with heap:=h',toks:=t'}:=by
 have hn:=Uk I.hok n;have nb:∀ b u,s.heap.get? b=some u->b≠a:=λb u q z=>by rw[z,n] at q;cases q
 have nh:∀ b u,H b=some u->upd H a o b=some u:=λb u q=>by rw[Ah λz=>by rw[z,hn] at q;cases q];exact q
 refine I.un ⟨λb u q _ _ _=>k b u q,λb u q _ _ _=>⟨u.slots,k b u q⟩,λb u q z _=>by rw[Ah (nb b u q)];exact z,λb u q _=>⟨u,k b u q⟩,λb xs q=>nh b _ q,λb ob u q=>nh b _ q,λb ps q=>⟨#[],by rw[Array.append_empty];exact nh b _ q⟩⟩ λb u q=>?_
 by_cases z:b=a
 . subst z;rw[A9] at q;cases q;exact new
 rw[Ah z] at q;exact(I.hok b u q).stay (λc v _ r=>k c v r) (λc r=>nh c _ r) λc xs r=>nh c _ r
section
variable {X:Cx}{k:Nat}{f C:Addr}{fd:FuncData}{ps:List Str}{sp:Sp}{x:Str}{p pos:Pos}{e:Expr}{es:List Expr}{t:TA}{pins:List (Addr×Obj)}{σ:St}{H:Hp}{s:Shared}{Q:VK}{us:List Value}{vs:List V}
theorem as6 (M:Mkx X.prog X.w X.K X.mg X.base k C x ps sp)(hr:Room (k+1) X.A)(I:Inv X pins σ H s)(r:Vals vs us)(hz:vs.length<=8)
  (h:∀ x,H x=none->sp (.ref x :: vs) (upd H x (exO x C none)) (λv H2=>v = .non/\Q (.ref x) H2) E0) :
  wpAny (model X.prog X.w) X.A (call (.ref C) us) (EP X pins σ Q) X.xe s:=by
 obtain⟨f,fd,F,c,hi,hf,hk,hm,hb⟩:=M;have hq:=h (s.heap.objs.size+1) (I.hok.fresh (A2H _));have r2:Vals (V.ref (s.heap.objs.size+1) :: vs) (Value.ref (s.heap.objs.size+1) :: us):=.cons rfl r
 have hl:((Value.ref (s.heap.objs.size+1) :: us)++[]).length=ps.length:=by have e:=r2.length;rw[F.len _ _ _ _ hq] at e;rw[A22];exact e.symm
 have hg1:((s.heap.push (ax9 us)).push (ai9 C s.heap.objs.size)).get? (s.heap.objs.size+1)=some (ai9 C s.heap.objs.size):=by heap_get
 have I2:Inv X pins σ (upd H (s.heap.objs.size+1) (exO (s.heap.objs.size+1) C none)) {s with heap:=(s.heap.push (ax9 us)).push (ai9 C s.heap.objs.size)}:=
  I.laid (a:=s.heap.objs.size+1) (t':=s.toks) (λb u q=>A01 _ (A01 _ q)) (A2H _) (exO_ok.mpr ⟨_,_,hg1,λ_=>rfl⟩)
 obtain⟨hh,g,d,tk,os⟩:=s
 refine at0 I.kIn c.ex hi (A24.mp hf) (by rw[<- r.length,A1F];omega) (A3I (A34 (F.run _ X.stack _ _ ⟨Value.ref (hh.objs.size+1) :: us,[]⟩ (Value.ref (hh.objs.size+1) :: us) _ _ E0 (hr.make C us [])
  (I2.env0.make C us []) (by have:=hb _ (Value.ref (hh.objs.size+1) :: us) I2.kIn hl;rw[A22] at this;exact this) r2 hq) λr s' hq'=>?_))
 cases r with
 |error e=>exact False.elim hq'
 |ok fl=>
   cases fl with
   |ret u=>obtain⟨v,H',I3,rv,ev,q3⟩:=I2.after hq';subst ev;exact⟨rv,⟨V.ref (hh.objs.size+1),H',I3,rfl,q3⟩⟩
   |next=>exact False.elim hq'
   |brk=>exact False.elim hq'
   |cont=>exact False.elim hq'
theorem a56 (M:Mkx X.prog X.w X.K X.mg X.base k C x ps sp)(hr:Room (k+1) X.A)(hg:Gl X x)(ha:PA X (e :: es) t)(hdb:(x==("__debug__":Str))=false:=by decide)
  (he:starEach (e :: es) X.env=(false,eval e X.env) :: starEach es X.env:=by ac_nf) (hpl:(backTo pos (starEach es X.env)).any (·.1)=false:=by ac_nf) :
  PE X (.Call (.Name x p) (e :: es) [] pos) (aT1 C sp t):=by
 intro pins s σ H Q I h;have M':=M;obtain⟨f,fd,F,c,hi,hf,hk,hm,hb⟩:=M';refine A1H (Jv I hg hm ?_ hdb);refine A2O (h₀:=X.base) I.ok.mod.kin hk (thn (ha pos pins s σ H _ I h) λus s1 ⟨vs,H1,I1,r,z,q⟩=>⟨I1.kIn,?_⟩) he hpl;exact as6 M hr I1 r z q
theorem ae7 (M:ax5 X.K X.mg C x)(I:Inv X pins σ H s)(r:Vals vs us)(hz:vs.length<=8)(h:∀ x,H x=none->Q (.ref x) (upd H x (exO x C none))) :
  wpAny (model X.prog X.w) X.A (call (.ref C) us) (EP X pins σ Q) X.xe s:=by
 obtain⟨nm,qn,N,bs,bm,sn,sub,ab,col,dd,k0,k1,k2,k3,k5,hl,htl⟩:=La M.xc.ex;have hno:=M.no;unfold Xq at hno;rw[hl] at hno;simp only[Bool.and_eq_true,beq_iff_eq] at hno;obtain⟨hh,g,d,tk,os⟩:=s;have Xn:X.K.In hh:=I.kIn;refine wpAny_call_exc_subT PySem.F.excBase_ValueError (A2R Xn htl) (Xn _ _ hl) (.of_isNs (W.isNs_of_in Xn hno.1)) (W.nsMap_none_of_in Xn hno.1 hno.2) (λh' e m=>?_) (by rw[<- r.length,A1F];omega);obtain⟨t0,he,_⟩:=m.there;exact⟨.ref e,upd H e (exO e C none),I.laidN (t':=tk) m.keeps m.new (exO_ok.mpr ⟨_,_,he,λ_=>rfl⟩),rfl,h e (Uk I.hok m.new)⟩
theorem Zg (M:ax5 X.K X.mg C x)(hg:Gl X x)(ha:PA X (e :: es) t)(hdb:(x==("__debug__":Str))=false:=by decide)
  (he:starEach (e :: es) X.env=(false,eval e X.env) :: starEach es X.env:=by ac_nf) (hpl:(backTo pos (starEach es X.env)).any (·.1)=false:=by ac_nf) :
  PE X (.Call (.Name x p) (e :: es) [] pos) (aI5 C t):=by
 intro pins s σ H Q I h;refine A1H (Jv I hg M.gl ?_ hdb);refine A2O (h₀:=X.base) I.ok.mod.kin M.kp (thn (ha pos pins s σ H _ I h) λus s1 ⟨vs,H1,I1,r,z,q⟩=>⟨I1.kIn,?_⟩) he hpl;exact ae7 M I1 r z q
end
def spX (C:Addr)(fs:List Str):Sp:=λvs H Q _=>∃ a ws,vs = .ref a :: ws/\ws.length=fs.length/\H a=some (exO a C none) /\
 ∀ dx H',H dx=none->dx≠a->(∀ b,b≠a->b≠dx->H' b=H b)->H' a=some (exO a C (some dx))->H' dx=some (xdO dx (fs.zip ws))->Q .non H'
section
variable {X:Cx}{K:W.Frag}{o e value:Expr}{f:Str}{pos pos':Pos}{ta tv:TE}
theorem Jl (he:PE X e ta)(hb:attributeBase e f X.env (eval e X.env)=eval e X.env)(hK:X.K=K:=by ac_nf):PE X (.Attribute e f pos) (av2 K ta f):=hK ▸ av4 he hb
theorem Mf (ha:PE X o ta)(hv:PE X value tv)(hs:swapsWith value (some (.Attribute o f pos')) pos.line X.env=pure false)(hK:X.K=K:=by ac_nf):PS X (.Assign [.Attribute o f pos'] value pos) (av3 K ta tv f):=
 hK ▸ aq2 ha hv hs
end
section
variable {K:W.Frag}{σ:St}{H:Hp}{Q:VK}{D:Ends}{f:Str}{ta tv:TE}{t:TA}{sp:Sp}{C a dx B G:Addr}{fs:List (Str×V)}{v y:V}{R:Hp->Prop}{vs:List V}
theorem an2 (k:ta σ H λx H1=>av6 K f x H1 Q):av2 K ta f σ H Q:=k
theorem Vb {n':Bool}(h:ExB n' H a C fs)(c:XC K C)(n:NoAttr K C f)(l:fs.lookup f=some v)(k:Q v H):av6 K f (.ref a) H Q:=by
 rcases h with ⟨rfl,_⟩|⟨dx,_,h1,h2⟩
 . cases l
 exact⟨n',a,C,dx,fs,v,rfl,h1,h2,c,n,l,k⟩
theorem ar7 (k:tv σ H λy H1=>ta σ H1 λx H2=>aL8 K f y x H2 λH3=>D.nx σ H3):av3 K ta tv f D σ H:=k
theorem a03 (h:H a=some (exO a C none))(c:XC K C)(n:NoAttr K C f)(k:∀ dx H',H dx=none->dx≠a->(∀ b,b≠a->b≠dx->H' b=H b)->H' a=some (exO a C (some dx))->H' dx=some (xdO dx [(f,y)])->R H'):aL8 K f y (.ref a) H R:=
 ⟨a,C,rfl,c,n,.inl ⟨h,λdx h1 h2=>k dx _ h1 h2 (λb hb hd=>by rw[Ah hb,Ah hd]) A9 (by rw[Ah h2,A9])⟩⟩
theorem aA4 (h:H a=some (exO a C (some dx)))(hd:H dx=some (xdO dx fs))(c:XC K C)(n:NoAttr K C f)(hl:fs.length<1000)(k:∀ H',(∀ b,b≠dx->H' b=H b)->H' dx=some (xdO dx (M0 f y fs))->R H'):aL8 K f y (.ref a) H R:=
 ⟨a,C,rfl,c,n,.inr ⟨dx,fs,h,hd,hl,k _ (λb hb=>Ah hb) A9⟩⟩
theorem aI8 (k:t σ H λvs H1=>aO5 C sp vs H1 Q):aT1 C sp t σ H Q:=k
theorem ab7 {gs:List Str}(hl:vs.length=gs.length)(hz:gs.length<=8)(k:∀ x H',H x=none->Same H H'->ExA H' x C (gs.zip vs)->Q (.ref x) H'):aO5 C (spX C gs) vs H Q:=by refine⟨by omega,λx hx=>⟨x,vs,rfl,hl,A9,λdx H' h1 h2 h3 h4 h5=>⟨rfl,k x H' hx (λb u q=>?_) (.inr ⟨dx,h2,h4,h5⟩)⟩⟩⟩;have b1:b≠x:=ne_of_none q hx;rw[Ah h2] at h1;rw[h3 b b1 (ne_of_none q h1),Ah b1];exact q
theorem au1 (k:t σ H λvs H1=>at1 C vs H1 Q):aI5 C t σ H Q:=k
theorem ai8 (hz:vs.length<=8)(k:∀ x H',H x=none->Same H H'->ExA H' x C []->Q (.ref x) H'):at1 C vs H Q:=
 ⟨hz,λx hx=>k x _ hx (λb u q=>by rw[Ah (ne_of_none q hx)];exact q) (.inl ⟨rfl,A9⟩)⟩
theorem Jm {n' b:Bool}(h:ExB n' H a C fs)(c:XC K C)(e:W.kitOne K (.ref C) (.ref G)=some b)(k:Q (.bl b) H):aH5 K [.ref a,.ref G] H Q:=⟨n',a,C,fs,b,h,c,.inl ⟨G,rfl,e⟩,k⟩
theorem Vo {n' b:Bool}{T:String}(h:ExB n' H a C fs)(c:XC K C)(e:W.kitOne K (.ref C) (.type T)=some b)(k:Q (.bl b) H):aH5 K [.ref a,.ty T] H Q:=⟨n',a,C,fs,b,h,c,.inr (.inl ⟨T,rfl,e⟩),k⟩
theorem T2 {n' b:Bool}{p:Addr}{cs:List Addr}(h:ExB n' H a C fs)(c:XC K C)(hp:H p=some (.tup (cs.map V.ref)))(e:W.kitAny K (.ref C) (cs.map Value.ref)=some b)(k:Q (.bl b) H):aH5 K [.ref a,.ref p] H Q:=
 ⟨n',a,C,fs,b,h,c,.inr (.inr ⟨p,cs,rfl,hp,e⟩),k⟩
end
theorem R5 {K:W.Frag}{C B:Addr}(hm:Fv K C B=true):W.kitOne K (.ref C) (.type "ValueError")=some true:=by obtain⟨cd,hc,hx⟩:=A4E hm;unfold W.kitOne;rw[A0J (by rw[A0Y.mpr (by intro q;cases q)];decide)];unfold W.kitCls;dsimp only;rw[A0R (by decide +kernel)];show W.mroIn K C _=_;unfold W.mroIn;rw[hc,Option.bind_some,beq_iff_eq.mp hx,if_neg (by simp),List.contains_cons,List.contains_cons,show xB.contains (Value.type "ValueError")=true by decide +kernel,Bool.or_true,Bool.or_true]
structure Lft (fs:List Addr)(a:Addr)(oe:Obj)(old:List Addr)(h h':Heap):Prop where
 keep:∀ b o,b∉fs->b≠a->b∉old->h.get? b=some o->h'.get? b=some o
 slot:∀ b o,b∈fs->h.get? b=some o->∃ sl,h'.get? b=some {o with slots:=sl}
 there:∀ b o,h.get? b=some o->∃ o',h'.get? b=some o'
 tr:∃ oe' vs T oT ts,h'.get? a=some oe'/\oe'.cls=oe.cls/\oe'.dict=oe.dict/\oe'.slots=oe.slots/\oe'.data = .fields vs/\vs[1]? = some (.ref T)/\T≠a/\h.get? T=none/\h'.get? T=some oT/\oT.data = .fields ts/\ts[3]? = some .none
section
variable {M:Model}{A:Around}{E:Value->Shared->Prop}{s:Shared}{base:Heap}{env:Env}{outer:List Env}{L a:Addr}{oe:Obj}{vs:Array Value}{Q:Unit->Shared->Prop}
theorem a07 (o:Obj)(g:Array Value->Array Value):(o.mapFields g).dict=o.dict/\(o.mapFields g).slots=o.slots/\(o.mapFields g).cls=o.cls:=by
 obtain⟨c,d,dt,sl⟩:=o
 cases dt<;>exact⟨rfl,rfl,rfl⟩
theorem Wl {head:Value}{hadNext:Bool}(hfr:A.frames=some (env :: outer))(hl:s.heap.FunFrames base (env :: outer))(hf:env.frame=some L)(he:s.heap.get? a=some oe)(hd:oe.data = .fields vs)(hsz:1<vs.size)
  (h:∀ h',Lft (frs (env :: outer)) a oe [] s.heap h'->Q () {s with heap:=h'}) :
  wpAny M A (do let x <- frameOf env;let pl <- entryPlaceOf L hadNext;let b <- EntryCells.newEntry head x .none (rawInt L) .none pl;setField (.ref a) 1 b) (λ_ s'=>wpAny M A (setFlight (.ref a) none) Q E s') E s:=by
 have ha:a∉frs (env :: outer):=λhm=>by obtain⟨_,o,ho,hnf⟩:=hl.mem hm;rw[he] at ho;cases ho;exact hnf vs hd
 refine A03 (wpAny_frameOf_fun hfr hl hf λh1 k1=>?_);refine A03 (wpAny_entryPlaceOf λpl hpl=>?_);unfold EntryCells.newEntry newFields;refine A03 (A2C ?_ (hpl.sizeOk5 _ _ _ _ _));generalize hob:(Obj.mk (Value.type "traceback") none (Data.fields ([head,Value.ref L,Value.none,rawInt L,Value.none]++(if pl.isEmpty then List.replicate 6 Value.none else pl)).toArray) #[]:Obj)=ob
 have obd:ob.data = .fields ([head,Value.ref L,Value.none,rawInt L,Value.none]++(if pl.isEmpty then List.replicate 6 Value.none else pl)).toArray:=by rw[<- hob]
 have hob2:ob.isFreed=false:=A3P obd;have he1:h1.get? a=some oe:=(k1.2.1 a ha).trans he;have he2:=A01 (h:=h1) ob he1;refine wpAny_setField he2 hd hsz ?_;have hTe:h1.objs.size≠a:=A3K (A06 he1);have d3:=A43 hd (·.setIfInBounds 1 (Value.ref h1.objs.size));have he3:=A1W (Obj.mapFields (·.setIfInBounds 1 (Value.ref h1.objs.size))) he2 (A3P d3);have hT3:=(A1D (h1.push ob) (Obj.mapFields (·.setIfInBounds 1 (Value.ref h1.objs.size))) (Ne.symm hTe)).trans (A0D h1 hob2);unfold setFlight;refine wpAny_bind (wpAny_field he3 d3 (x:=.ref h1.objs.size) (by simp[hsz]) ?_);rw[if_pos (show(Value.ref h1.objs.size != Value.none)=true from by simp)];refine wpAny_setField hT3 obd (by simp only[List.size_toArray,List.length_append,List.length_cons,List.length_nil]<;>omega) (h _ ?_)
 have kp:∀ b o,b≠a->h1.get? b=some o->(((h1.push ob).update a (Obj.mapFields (·.setIfInBounds 1 (Value.ref h1.objs.size)))).update h1.objs.size (Obj.mapFields (·.setIfInBounds 3 ((none:Option Addr).elim Value.none λf=>rawInt f)))).get? b=some o:=λb o hbe hb=>by rw[A1D _ _ (A3K (A06 hb)),A1D _ _ (Ne.symm hbe)];exact A01 _ hb
 have hea:=(A1D _ (Obj.mapFields (·.setIfInBounds 3 ((none:Option Addr).elim Value.none λf=>rawInt f))) hTe).trans he3;refine⟨λb o hb hba _ q=>kp b o hba ((k1.2.1 b hb).trans q),λb o hb q=>?_,λb o q=>?_,?_⟩
 . obtain⟨sl,z⟩:=k1.2.2 b o q;exact⟨sl,kp b _ (λw=>ha (w ▸ hb)) z⟩
 . by_cases w:b=a
   . subst w;exact⟨_,hea⟩
   obtain⟨sl,z⟩:=k1.2.2 b o q;exact⟨_,kp b _ w z⟩
 obtain⟨m1,m2,m3⟩:=a07 oe (·.setIfInBounds 1 (Value.ref h1.objs.size));refine⟨_,_,h1.objs.size,_,_,hea,m3,m1,m2,d3,by simp[hsz],hTe,Heap.get?_none_of_le (by rw[k1.1];exact Nat.le_refl _),Heap.get?_update_self _ hT3 (Obj.isFreed_of_fields (Obj.data_mapFields obd _)),Obj.data_mapFields obd _,?_⟩;rcases hpl with rfl|⟨_,_,_,_,_,_,_,rfl⟩<;>simp
theorem ab4 (hfr:A.frames=some (env :: outer))(hl:s.heap.FunFrames base (env :: outer))(hf:env.frame=some L)(he:s.heap.get? a=some oe)(hd:oe.data = .fields vs)(h1:vs[1]? = some .none)
  (h:∀ h',Lft (frs (env :: outer)) a oe [] s.heap h'->Q () {s with heap:=h'}):wpAny M A (leaving env (.ref a)) Q E s:=by
 unfold leaving noteFrame;simp only[hf];refine A03 (A03 (A2J he hd h1 ?_));rw[A0J ∅];exact Wl hfr hl hf he hd (A23.mp h1).1 h
theorem Wm {T:Addr}{oT:Obj}{ts:Array Value}(hfr:A.frames=some (env :: outer))(hl:s.heap.FunFrames base (env :: outer))(hf:env.frame=some L)(he:s.heap.get? a=some oe)(hd:oe.data = .fields vs)(h1:vs[1]? = some (.ref T))
  (hTe:T≠a) (hT:s.heap.get? T=some oT) (hdT:oT.data = .fields ts) (h3:ts[3]? = some .none)
  (h:∀ h',Lft (frs (env :: outer)) a oe [T] s.heap h'->Q () {s with heap:=h'}):wpAny M A (noteFrame (.ref a) env) (λ_ s'=>wpAny M A (setFlight (.ref a) none) Q E s') E s:=by
 unfold noteFrame;simp only[hf];refine A03 (A2J he hd h1 ?_);rw[if_pos (show(Value.ref T != Value.none)=true from by simp)];refine A03 (A2J hT hdT h3 ?_);rw[if_neg (show ¬ ((Value.none==rawInt L)=true) from by simp[rawInt])];refine A03 (wpAny_setField hT hdT (A23.mp h3).1 ?_);have ot:∀ b,b≠T->(s.heap.update T (Obj.mapFields (·.setIfInBounds 3 Value.none))).get? b=s.heap.get? b:=λb hb=>A1D _ _ (Ne.symm hb);have tt:=A1W (Obj.mapFields (·.setIfInBounds 3 Value.none)) hT (A3P (A43 hdT _))
 have nT:∀ b o,s.heap.get? b=some o->(∀ us,o.data ≠ .fields us)->b≠T:=λb o hb hnf q=>by rw[q,hT] at hb;cases hb;exact hnf ts hdT
 have fT:T∉frs (env :: outer):=λhm=>by obtain⟨_,o,ho,hnf⟩:=hl.mem hm;exact nT T o ho hnf rfl
 refine Wl (hl:=hl.of_keeps λb o hb hnf=>⟨o,(ot b (nT b o hb hnf)).trans hb,rfl⟩) hfr hf ((ot a (Ne.symm hTe)).trans he) hd (A23.mp h1).1 λh' l=>h h' ?_;obtain⟨x1,x2,x3,oe',us,T',oT',ts',q1,q2,q3,q4,q5,q6,q7,q8,q9⟩:=l;refine⟨λb o hb hba hbt q=>x1 b o hb hba (by simp) ((ot b λz=>hbt (by simp[z])).trans q),λb o hb q=>x2 b o hb ((ot b λz=>fT (z ▸ hb)).trans q),λb o q=>?_,oe',us,T',oT',ts',q1,q2,q3,q4,q5,q6,q7,?_,q9⟩
 . by_cases z:b=T
   . subst z;exact x3 _ _ tt
   exact x3 b o ((ot b z).trans q)
 by_cases z:T'=T
 . rw[z,tt] at q8;cases q8
 rw[<- ot T' z];exact q8
theorem aw0 {T:Addr}{oT:Obj}{ts:Array Value}(hfr:A.frames=some (env :: outer))(hl:s.heap.FunFrames base (env :: outer))(hf:env.frame=some L)(he:s.heap.get? a=some oe)(hd:oe.data = .fields vs)(h1:vs[1]? = some (.ref T))
  (hTe:T≠a) (hT:s.heap.get? T=some oT) (hdT:oT.data = .fields ts) (h3:ts[3]? = some .none)
  (h:∀ h',Lft (frs (env :: outer)) a oe [T] s.heap h'->Q () {s with heap:=h'}):wpAny M A (leaving env (.ref a)) Q E s:=by
 unfold leaving;exact A03 (Wm hfr hl hf he hd h1 hTe hT hdT h3 h)
end
def Tra (a:Addr)(H':Hp)(h0 h:Heap):Prop:=∃ oe vs T oT ts,h.get? a=some oe/\oe.data = .fields vs/\vs[1]? = some (.ref T)/\T≠a/\h.get? T=some oT/\oT.data = .fields ts/\ts[3]? = some .none/\H' T=none/\h0.get? T=none
def CX1 (P:Program)(w:World):CXT:=λouter H s E e s'=>∃ a C od H',e = .ref a/\s'.os=s.os/\AllBare s'.gens/\Un (frs outer) [] H H' s.heap s'.heap/\HOk P w H' s'.heap/\H' a=some (exG false a C od)/\s.heap.get? a=none/\Tra a H' s.heap s'.heap/\E (.ref a) none H'
section
variable {P:Program}{w:World}{fs:List Addr}{a C:Addr}{od:Option Addr}{oe:Obj}{old:List Addr}{h h':Heap}{H:Hp}{n:Bool}
theorem Lft.hok (l:Lft fs a oe old h h')(ok:HOk P w H h)(he:h.get? a=some oe)(ha:H a=some (exG n a C od))(hfs:∀ b∈fs,H b=none)(hold:∀ b∈old,H b=none):HOk P w (upd H a (exG false a C od)) h':=λb u q=>by
 have hu:∀ c z,H c=some z->c≠a->upd H a (exG false a C od) c=some z:=λc z r ne=>by rw[Ah ne];exact r
 by_cases hb:b=a
 . subst hb;rw[A9] at q;cases q;obtain⟨vs,sl,e1,_⟩:=exG_ok.mp (ok b _ ha);rw[he] at e1;cases e1;obtain⟨oe',us,T,oT,ts,q1,q2,q3,q4,q5,_⟩:=l.tr;obtain⟨c,d,dt,s4⟩:=oe';dsimp only at q2 q3 q4 q5;subst q2 q3 q4 q5;exact exG_ok.mpr ⟨us,_,q1,λz=>Bool.noConfusion z⟩
 rw[Ah hb] at q;refine(ok b u q).stay (λc v hc r=>?_) (λc r=>hu c _ r λz=>?_) λc xs r=>hu c _ r λz=>?_
 . have hcn:∃ z,H c=some z:=by
    rcases hc with hc|hc
    . exact⟨u,hc ▸ q⟩
    exact⟨_,hc⟩
   obtain⟨z,hz⟩:=hcn;refine l.keep c v (λm=>by rw[hfs c m] at hz;cases hz) (λe=>?_) (λm=>by rw[hold c m] at hz;cases hz) r;subst e;rcases hc with hc|hc
   . exact hb hc.symm
   rw[ha] at hc;cases hc
 . rw[z,ha] at r;cases r
 rw[z,ha] at r;cases r
end
section
variable {P:Program}{w:World}{K:W.Frag}{mg:Str->Option Value}{base:Heap}{N:List Str}{qual:Str}{scope:Scope}{f:Addr}{cd:Value}{A:Around}{outer:List Env}{s₀:Shared}{H₀:Hp}{E:XK}
theorem Xw {h h':Heap}:∀ {l:List Env},h.FunFrames base l->(∀ b∈frs l,∀ o,h.get? b=some o->∃ sl,h'.get? b=some {o with slots:=sl})->h'.FunFrames base l
 | [],_,_=>A1J
 |env :: r,hl,k=>by
   obtain⟨hk,⟨L,o,hf,hn,ho,hd⟩,hr⟩:=hl;have e:frs (env :: r)=L :: frs r:=by unfold frs;rw[List.filterMap_cons,hf]
   obtain⟨sl,z⟩:=k L (by rw[e];exact A0M) o ho;exact⟨hk,⟨L,_,hf,hn,z,hd⟩,Xw hr λb hb=>k b (by rw[e];exact A0B _ hb)⟩
theorem aG5 {CX:CXT}{pins:List (Addr×Obj)}{σ:St}{H1 H2:Hp}{s1 s2:Shared}{h3:Heap}{a C:Addr}{od:Option Addr}{oe:Obj}{old:List Addr}{n:Bool}(I:Inv (Ul CX P w K mg base N qual scope f cd A outer s₀ H₀ E) pins σ H1 s1)
  (os:s2.os=s1.os) (bare:AllBare s2.gens) (un:Un (frs (envOfC qual scope s₀.heap.objs.size f cd :: outer)) [] H1 H2 s1.heap s2.heap) (ok:HOk P w H2 s2.heap) (ha:H2 a=some (exG n a C od)) (he:s2.heap.get? a=some oe) (hn:s₀.heap.get? a=none) (hold:∀ b∈old,H2 b=none/\s₀.heap.get? b=none)
  (l:Lft (frs (envOfC qual scope s₀.heap.objs.size f cd :: outer)) a oe old s2.heap h3) (q:E (.ref a) none (upd H2 a (exG false a C od))) :
  CX1 P w outer H₀ s₀ E (.ref a) {s2 with heap:=h3}:=by
 have stk:∀ b∈frs (envOfC qual scope s₀.heap.objs.size f cd :: outer),b=s₀.heap.objs.size\/b∈frs outer:=λb hb=>by
  rcases A0C.mp (I.stkSub b hb) with z|z
  . exact .inl z
  exact .inr z
 have fr2:∀ b∈frs (envOfC qual scope s₀.heap.objs.size f cd :: outer),H2 b=none:=λb hb=>by obtain⟨_,o,ho,_⟩:=I.stack.mem hb;exact un.free b o ho (I.stkFree b hb) (by simp)
 obtain⟨oe',us,T,oT,ts,q1,q2,q3,q4,q5,q6,q7,q8,q9,q10,q11⟩:=l.tr;have nl:∀ b o,s₀.heap.get? b=some o->b≠s₀.heap.objs.size:=λb o z=>A0K (A06 z);have na:∀ b o,s₀.heap.get? b=some o->b≠a:=λb o z e=>by rw[e,hn] at z;cases z
 have no:∀ b o,s₀.heap.get? b=some o->b∉old:=λb o z e=>by rw[(hold b e).2] at z;cases z
 have tn:H2 T=none:=Uk ok q8
 have t0:s₀.heap.get? T=none:=by
  cases z:s₀.heap.get? T with
  |none=>rfl
  |some o=>obtain⟨o1,z1⟩:=I.base.there T o z (by intro m;cases m);obtain⟨o2,z2⟩:=un.there T o1 z1 (by simp);rw[q8] at z2;cases z2
 have hu:∀ c z,H2 c=some z->z≠exG n a C od->upd H2 a (exG false a C od) c=some z:=λc z r ne=>by rw[Ah λe=>ne (by rw[e,ha] at r;exact(A0O r).symm)];exact r
 refine⟨a,C,od,upd H2 a (exG false a C od),rfl,os.trans I.os,bare,⟨λb o z nz hb _=>?_,λb o z nz hb _=>?_,λb o z nz _=>?_,λb o z _=>?_,λb xs z=>?_,λb o u z=>?_,λb ps z=>?_⟩,l.hok ok he ha fr2 (λb m=>(hold b m).1),A9,hn,⟨oe',us,T,oT,ts,q1,q5,q6,q7,q9,q10,q11,by rw[Ah q7];exact tn,t0⟩,q⟩
 . have z1:=I.base.keep b o z nz hb (by intro m;cases m);have n1:=I.base.free b o z nz (by intro m;cases m);have hb2:b∉frs (envOfC qual scope s₀.heap.objs.size f cd :: outer):=λm=>(stk b m).elim (nl b o z) hb;exact l.keep b o hb2 (na b o z) (no b o z) (un.keep b o z1 n1 hb2 (by simp))
 . obtain⟨sl,z1⟩:=I.base.slot b o z nz hb (by intro m;cases m);have n1:=I.base.free b o z nz (by intro m;cases m);obtain⟨sl2,z2⟩:=un.any z1 n1 (by simp)
   by_cases m:b∈frs (envOfC qual scope s₀.heap.objs.size f cd :: outer)
   . obtain⟨sl3,z3⟩:=l.slot b _ m z2;exact⟨sl3,z3⟩
   exact⟨sl2,l.keep b _ m (na b o z) (no b o z) z2⟩
 . obtain⟨o1,z1⟩:=I.base.there b o z (by intro m;cases m);have n1:=I.base.free b o z nz (by intro m;cases m);show upd H2 a _ b=none;rw[Ah (na b o z)];exact un.free b o1 z1 n1 (by simp)
 . obtain⟨o1,z1⟩:=I.base.there b o z (by intro m;cases m);obtain⟨o2,z2⟩:=un.there b o1 z1 (by simp);exact l.there b o2 z2
 . exact hu b _ (un.tups b xs (I.base.tups b xs z)) (λe=>nomatch e)
 . exact hu b _ (un.frzs b o u (I.base.frzs b o u z)) (λe=>nomatch e)
 obtain⟨m1,z1⟩:=I.base.tbls b ps z;obtain⟨m2,z2⟩:=un.tbls b _ z1;exact⟨m1++m2,by rw[<- Array.append_assoc];exact hu b _ z2 (λe=>nomatch e)⟩
theorem aO4 (hfr:scope.kind ≠ .module)(hE:∀ a H C od,H a=some (exG false a C od)->E (.ref a) none H->E (.ref a) none (upd H a (exG false a C od))):Gh (CX1 P w) (Ul (CX1 P w) P w K mg base N qual scope f cd A outer s₀ H₀ E) E:=by
 intro pins σ H1 s1 e s' I hq;obtain ⟨a,C,od,H2,rfl,os,bare,un,ok,ha,hn,⟨oe,vs,T,oT,ts,t1,t2,t3,t4,t5,t6,t7,t8,t9⟩,q⟩:=hq
 have hn0:s₀.heap.get? a=none:=by
  cases z:s₀.heap.get? a with
  |none=>rfl
  |some o=>obtain⟨o1,z1⟩:=I.base.there a o z (by intro m;cases m);rw[hn] at z1;cases z1
 have hT0:s₀.heap.get? T=none:=by
  cases z:s₀.heap.get? T with
  |none=>rfl
  |some o=>obtain⟨o1,z1⟩:=I.base.there T o z (by intro m;cases m);rw[t9] at z1;cases z1
 have fun2:s'.heap.FunFrames base (envOfC qual scope s₀.heap.objs.size f cd :: outer):=Xw I.stack λb hb o ho=>un.any ho (I.stkFree b hb) (by simp);refine aw0 (base:=base) (L:=s₀.heap.objs.size) (I.ok.frames) fun2 rfl t1 t2 t3 t4 t5 t6 t7 λh3 l=>?_;exact aG5 I os bare un ok ha t1 hn0 (λb hb=>by simp at hb;subst hb;exact⟨t8,hT0⟩) l (hE a H2 C od ha q)
theorem Vn {H:Hp}{a:Addr}{o:HO}(h:H a=some o):upd H a o=H:=by
 funext b;unfold upd
 split
 . rename_i e;rw[e,h]
 rfl
theorem ag8:Gh (CX1 P w) (Ul (CX1 P w) P w K mg base N qual scope f cd A outer s₀ H₀ E) E:=by intro pins σ H1 s1 e s' I hq;exact aO4 (by have:=I.ok.kind;show scope.kind≠_;rw[show scope.kind = .function from this];decide) (λa H C od h q=>by rw[Vn h];exact q) pins σ H1 s1 e s' I hq
def Z4 (K:W.Frag)(H0:Hp)(E:XK)(x:V)(H1:Hp):Prop:=∃ a C od,x = .ref a/\H1 a=some (exO a C od)/\XC K C/\H0 a=none/\E (.ref a) none (upd H1 a (exG false a C od))
def ah4 (K:W.Frag)(H0:Hp)(E:XK)(t:TE):TS:=λD σ H=>t σ H λx H1=>Z4 K H0 E x H1
theorem Kl {ex:Expr}{t:TE}{pos:Pos}{X:Cx}(hX:X=Ul (CX1 P w) P w K mg base N qual scope f cd A outer s₀ H₀ E)(he:PE X ex t):PS X (.Raise (some ex) none pos) (ah4 K H₀ E t):=by
 subst hX;intro pins s σ H D I h;rw[arm_exec_Raise];refine A03 (A5C ?_);unfold raiseStmt;simp only[evalOpt,Option.map];refine A03 (A03 (thn (he pins s σ H _ I h) λv s1 ⟨x,H1,I1,rx,a,C,od,ex',ha,hc,h0,q⟩=>A03 (A5C (A09 ?_))));subst ex';obtain rfl:v=Value.ref a:=rx;obtain⟨vs,sl,hx,hv⟩:=exO_ok.mp (I1.hok a _ ha);have hv:=hv rfl;obtain⟨nm,qn,N',bs,bm,sn,sub,ab,col,dd,k0,k1,k2,k3,k5,hl,htl⟩:=La hc.ex;have hC:=I1.kIn _ _ hl;have hcB:(Value.ref C :: bm).contains (.type "BaseException")=true:=by rw[A3A,ak5 (A2R I1.kIn htl),Bool.or_true]
 have fin:(Ul (CX1 P w) P w K mg base N qual scope f cd A outer s₀ H₀ E).xe (.ref a) s1:=by
  refine ab4 (base:=base) (L:=s₀.heap.objs.size) I1.ok.frames I1.stack rfl hx rfl hv λh3 l=>?_
  have hn0:s₀.heap.get? a=none:=by
   cases z:s₀.heap.get? a with
   |none=>rfl
   |some o=>have:=I1.base.free a o z h0 (by intro m;cases m);rw[ha] at this;cases this
  exact aG5 I1 rfl I1.bare Un.refl I1.hok ha hx hn0 (by simp) l q
 obtain⟨hh,g,d,tk,os⟩:=s1
 repeat (first | (with_reducible refine A2F hx ?_) | (with_reducible refine A2F hC ?_) | (with_reducible refine A57 hC ?_;rw[hcB]) | (with_reducible refine A2J hx rfl hv ?_) | wp_step)
 exact wpAny_raiseNew_none (I1.ok.hd rfl) fin
end
section
variable {X:Cx}{pins:List (Addr×Obj)}{σ:St}{H:Hp}{s:Shared}
theorem Ql {M:Model}{A:Around}{E:Value->Shared->Prop}{i:Nat}{x:Str}{pos:Pos}{Q:Unit->Shared->Prop}(I:Inv X pins σ H s)(hN:X.N.Nodup)(hi:X.N[i]? = some x)(hk:X.env.scope.names.lookup x=some .local)
  (h:∀ s',Inv X pins (σ.set i none) H s'->Q () s'):wpAny M A (do bindName X.env x .none;unbindBehindTheSuite X.env x pos) Q E s:=by
 refine A03 (wpAny_bindName (Mo (v:=.non) (u:=.none) I hN hi (.inl hk) rfl (λs1 I1=>?_) (.inr hk)));unfold unbindBehindTheSuite;refine wpAny_onRaise ?_;obtain⟨m,hn,hl⟩:=id I1.loc;have hcls:(X.env.scope.kind == .class||(X.env.scope.kind == .module&&X.env.locals != X.env.globals))=false:=by rw[I1.ok.kind];rfl
 have hiσ:i<σ.length:=by rw[I.len];exact(A00.mp hi).1
 obtain⟨u,ru,lu⟩:=hl i x .non hi (A3C hiσ) (.inl hk)
 have hmx:m x=some u:=by
  rcases lu with ⟨_,z⟩|⟨z,_⟩
  . exact z
  have z':X.env.scope.names.lookup x=some .cell\/X.env.scope.names.lookup x=some .free:=z;rw[hk] at z';rcases z' with z'|z'<;>cases z'
 refine wpAny_unbindName_local hk hn hmx hcls λh' w hn' hs=>h _ ?_;obtain⟨oL,_,_,hoL,_⟩:=id hn;have cne:=I1.cne;refine⟨I1.ok,I1.os,I1.bare,⟨λb o e n hb hx=>?_,λb o e n hb hx=>?_,I1.base.free,λb o e hx=>?_,I1.base.tups,I1.base.frzs,I1.base.tbls⟩,⟨_,hn',λj y v' e1 e2 e3=>?_⟩,λy c e=>?_,I1.free,I1.freeC,λp hp=>?_,λb ob e=>?_,by simpa using I.len⟩
 . exact(hs.2 b (A0K (A10 (A06 e) I1.ok.above))).trans (I1.base.keep b o e n hb hx)
 . obtain⟨sl,e1⟩:=I1.base.slot b o e n hb hx;exact⟨sl,(hs.2 b (A0K (A10 (A06 e) I1.ok.above))).trans e1⟩
 . obtain⟨o',e1⟩:=I1.base.there b o e hx;exact⟨o',(hs.2 b (A0K (A10 (A06 e) I1.ok.above))).trans e1⟩
 . by_cases hj:j=i
   . subst hj;rw[A3C hiσ] at e2
     cases e2
   rw[A2W (Ne.symm hj)] at e2;obtain⟨u',r',q⟩:=hl j y v' e1 (by rw[A2W (Ne.symm hj)];exact e2) e3;refine⟨u',r',?_⟩;rcases q with ⟨k,e⟩|⟨k,c,e,z⟩
   . refine .inl ⟨k,?_⟩;have ne:y≠x:=λe=>hj (Ri hN e1 (e ▸ hi));simp[ne,e]
   exact .inr ⟨k,c,e,z.sameBut hs (cne y c e)⟩
 . obtain⟨w',z⟩:=I1.cell y c e;exact⟨w',z.sameBut hs (cne y c e)⟩
 . obtain⟨e,n,ne,nf,d⟩:=I1.pin p hp;exact⟨(hs.2 p.1 ne).trans e,n,ne,nf,d⟩
 refine(I1.hok b ob e).stay (λc w' hc q=>(hs.2 c ?_).trans q) (λ_ q=>q) λ_ _ q=>q;rintro rfl;rcases hc with hc|hc
 . rw[<- hc] at e;rw[I1.free] at e;cases e
 rw[I1.free] at hc;cases hc
abbrev Cx.tri (X:Cx)(pins:List (Addr×Obj))(E:Value->Shared->Prop):Cx:={X with xe:=E,pn:=X.pn++pins}
abbrev Cx.hnd (X:Cx)(a:Addr)(E:Value->Shared->Prop):Cx:={X with A:=X.A.mark (some (.ref a)),calm:=false,xe:=E}
theorem Inv.tri (I:Inv X pins σ H s)(E:Value->Shared->Prop):Inv (X.tri pins E) [] σ H s:=
 ⟨⟨I.ok.mod,I.ok.kind,I.ok.glob,I.ok.blt,I.ok.above,I.ok.inj,I.ok.has,I.ok.cab,I.ok.hd,I.ok.frames,I.ok.stk,I.ok.exf,I.ok.bs,I.ok.bsz,I.ok.noex,I.ok.exfs,I.ok.funs,I.ok.frf⟩,I.os,I.bare,I.base,I.loc,I.cell,I.free,I.freeC,λp hp=>I.pin p (by simpa using hp),I.hok,I.len⟩
theorem Inv.untri {E:Value->Shared->Prop}{more:List (Addr×Obj)}(I:Inv (X.tri pins E) more σ H s):Inv X pins σ H s:=
 ⟨⟨I.ok.mod,I.ok.kind,I.ok.glob,I.ok.blt,I.ok.above,I.ok.inj,I.ok.has,I.ok.cab,I.ok.hd,I.ok.frames,I.ok.stk,I.ok.exf,I.ok.bs,I.ok.bsz,I.ok.noex,I.ok.exfs,I.ok.funs,I.ok.frf⟩,I.os,I.bare,I.base,I.loc,I.cell,I.free,I.freeC,λp hp=>I.pin p (A0X _ hp),I.hok,I.len⟩
theorem Inv.hnd (I:Inv X pins σ H s)(a:Addr)(E:Value->Shared->Prop):Inv (X.hnd a E) pins σ H s:=
 ⟨⟨I.ok.mod,I.ok.kind,I.ok.glob,I.ok.blt,I.ok.above,I.ok.inj,I.ok.has,I.ok.cab,λz=>Bool.noConfusion z,I.ok.frames,I.ok.stk,I.ok.exf,I.ok.bs,I.ok.bsz,I.ok.noex,I.ok.exfs,I.ok.funs,I.ok.frf⟩,I.os,I.bare,I.base,I.loc,I.cell,I.free,I.freeC,I.pin,I.hok,I.len⟩
theorem Inv.unhnd {a:Addr}{E:Value->Shared->Prop}(hd:X.calm=true->X.A.handled=none)(I:Inv (X.hnd a E) pins σ H s):Inv X pins σ H s:=
 ⟨⟨I.ok.mod,I.ok.kind,I.ok.glob,I.ok.blt,I.ok.above,I.ok.inj,I.ok.has,I.ok.cab,hd,I.ok.frames,I.ok.stk,I.ok.exf,I.ok.bs,I.ok.bsz,I.ok.noex,I.ok.exfs,I.ok.funs,I.ok.frf⟩,I.os,I.bare,I.base,I.loc,I.cell,I.free,I.freeC,I.pin,I.hok,I.len⟩
end
section
variable {M:Model}{A:Around}{E:Value->Shared->Prop}{s:Shared}{K:W.Frag}{C B a:Addr}{oe:Obj}{Q:Bool->Shared->Prop}
theorem ac3 (X:K.In s.heap)(c:XC K C)(b:XC K B)(hm:W.mroIn K C (.ref B)=some true)(he:s.heap.get? a=some oe)(hc:oe.cls = .ref C)(hq:Q true s):wpAny M A (excMatches (.ref a) (.ref B)) Q E s:=by
 obtain⟨nm,qn,N,bs,bm,sn,sub,ab,col,dd,k0,k1,k2,k3,k5,hl,htl⟩:=La b.ex;have hB:=X _ _ hl;have hcB:(Value.ref B :: bm).contains (.type "BaseException")=true:=by rw[A3A,ak5 (A2R X htl),Bool.or_true]
 have f:=tc_notTuple;have l1:W.Looks M s.heap (isSubtype (.ref C) (.ref B)) true:=A58 X hm;obtain⟨h,g,d,t,os⟩:=s;unfold excMatches
 repeat (first | (with_reducible refine A2F he ?_;rw[hc]) | (with_reducible refine A2F hB ?_) | (with_reducible refine A57 hB ?_;rw[hcB]) | (with_reducible refine l1.at ?_) | wp_step)
 exact hq
end
def tryE (G:Addr->Hp->Prop):XK:=λv _ H'=>∃ a,v = .ref a/\G a H'
def sTry (K:W.Frag)(len i:Nat)(B:Addr)(G:Addr->Hp->Prop)(tb th:TS):TS:=λD σ H=>tb D σ H/\∀(a:Addr) (H':Hp) (σ':St),σ'.length=len->G a H' ->
 (∃ C od,H' a=some (exG false a C od)/\XC K C/\W.mroIn K C (.ref B)=some true) /\
  th {nx:=fun σ2 H2=>D.nx (σ2.set i none) H2,rt:=D.rt,bk:=fun σ2 H2=>D.bk (σ2.set i none) H2,ct:=fun σ2 H2=>D.ct (σ2.set i none) H2} (σ'.set i (some (.ref a))) H'
section
variable {X:Cx}{pins:List (Addr×Obj)}
theorem SP.untri {E:Value->Shared->Prop}{D:Ends}{f:Flow}{s':Shared}(h:SP (X.tri pins E) [] D f s'):SP X pins D f s':=by
 cases f with
 |next=>obtain⟨σ',H',I,q⟩:=h;exact⟨σ',H',I.untri,q⟩
 |brk=>obtain⟨σ',H',I,q⟩:=h;exact⟨σ',H',I.untri,q⟩
 |cont=>obtain⟨σ',H',I,q⟩:=h;exact⟨σ',H',I.untri,q⟩
 |ret u=>obtain⟨v,σ',H',I,r,q⟩:=h;exact⟨v,σ',H',I.untri,r,q⟩
theorem as4 {ts:Array Value}(h:ts[3]? = some .none):ts.setIfInBounds 3 .none=ts:=by
 obtain⟨h1,h2⟩:=A23.mp h;refine Array.ext (by simp) λj j1 j2=>?_;rw[Array.getElem_setIfInBounds]
 split
 . rename_i e;subst e;exact h2.symm
 rfl
theorem ah0 {body suite:List Stmt}{b0:Stmt}{tb th:TS}{n bx:Str}{i:Nat}{B:Addr}{p1 p2 pos:Pos}(G:Addr->Hp->Prop)(hN:X.N.Nodup)(hi:X.N[i]? = some n)(hk:X.env.scope.names.lookup n=some .local)(hg:Gl X bx)(hm:X.mg bx=some (.ref B))(hB:XC X.K B)
  (hst:X.stack=X.env :: X.outer) (hf:X.env.frame=some X.env.locals) (hex:X.ex=[])
  (hb:∀ ps xe,Gh (CX1 X.prog X.w) (X.tri ps xe) (tryE G)->PSs (X.tri ps xe) body tb) (hs:∀ a xe,PSs (X.hnd a xe) (b0 :: suite) th) (hd:(bx==("__debug__":Str))=false:=by decide) :
  PS X (.Try body [.ExceptHandler (some (.Name bx p1)) (some n) (b0 :: suite) p2] [] [] pos) (sTry X.K X.N.length i B G tb th):=by
 intro pins s σ H D I h;refine wpAny_Try_except ?_;refine A1X (hb pins _ ?_ [] s σ H D (I.tri _) h.1) (λf s1 hs1=>?_) λe s1 he=>he
 . intro pins2 σ2 H2 s2 e s3 I2 hq;obtain⟨a,C',od',H3,rfl,os,bare,un,ok,ha',hn,⟨oe,vs,T,oT,ts,t1,t2,t3,t4,t5,t6,t7,t8,t9⟩,a',ea,q⟩:=hq
   cases ea;have J2:Inv X pins σ2 H2 s2:=I2.untri;obtain⟨⟨C,od,ha,hc,hmro⟩,q3⟩:=h.2 a H3 σ2 (by rw[J2.len]) q;have un':Un (frs X.stack) [] H2 H3 s2.heap s3.heap:=un
   have fun3:s3.heap.FunFrames X.base (X.env :: X.outer):=by have:=Xw (h':=s3.heap) J2.stack λb hb o ho=>un'.any ho (J2.stkFree b hb) (by simp);rwa[hst] at this
   have fr3:∀ b∈frs X.stack,H3 b=none:=λb hb=>by obtain⟨_,o,ho,_⟩:=J2.stack.mem hb;exact un'.free b o ho (J2.stkFree b hb) (by simp)
   refine Wm (base:=X.base) (L:=X.env.locals) (by have:=J2.ok.frames;rwa[hst] at this) fun3 hf t1 t2 t3 t4 t5 t6 t7 λh4 l=>?_;rw[<- hst] at l
   have ok4:HOk X.prog X.w H3 h4:=by have:=l.hok ok t1 ha fr3 (λb hb=>by simp at hb;subst hb;exact t8);rwa[Vn ha] at this
   have un4:Un (frs X.stack) [] H2 H3 s2.heap h4:=by
    have na:∀ b o,s2.heap.get? b=some o->b≠a:=λb o z e=>by rw[e,hn] at z;cases z
    have nT:∀ b o,s2.heap.get? b=some o->b∉[T]:=λb o z e=>by simp at e;rw[e,t9] at z;cases z
    refine⟨λb o z nz hb hx=>l.keep b o hb (na b o z) (nT b o z) (un'.keep b o z nz hb hx),λb o z nz hb hx=>?_,un'.free,λb o z hx=>?_,un'.tups,un'.frzs,un'.tbls⟩
    . obtain⟨sl,z1⟩:=un'.slot b o z nz hb hx;obtain⟨sl2,z2⟩:=l.slot b _ hb z1;exact⟨sl2,z2⟩
    obtain⟨o1,z1⟩:=un'.there b o z hx;exact l.there b o1 z1
   have I4:Inv X pins σ2 H3 {s3 with heap:=h4}:=J2.call' (s':={s3 with heap:=h4}) (ch:=[]) os un4 ok4 bare (λb z=>absurd z (by simp))
   obtain⟨us,sl4,he4,_⟩:=exG_ok.mp (ok4 a _ ha);obtain⟨oe',vs',T',oT',ts',q1,q2,q3',q4,q5,q6,q7,q8,q9,q10,q11⟩:=l.tr;have hd4:X.calm=true->X.A.handled=none:=I.ok.hd;refine wpAny_handleBy_cons (codeAny_handlers_test ?_) (by intro q;cases q);refine Jv (X:=X.hnd a λ_ _=>False) (I4.hnd a _) hg hm ?_ hd;refine ac3 (s:={s3 with heap:=h4}) I4.kIn hc hB hmro he4 rfl ?_
   refine codeAny_handlers_suite_as ?_;have hz:3<ts'.size:=(A23.mp q11).1;refine wpAny_setFlight_none q1 q5 q6 q9 q10 hz ?_
   have same:∀ b u,h4.get? b=some u->(h4.update T' (Obj.mapFields (·.setIfInBounds 3 .none))).get? b=some u:=λb u z=>by
    by_cases e:b=T'
    . subst e;rw[q9] at z;cases z;rw[A1W _ q9 (A3P (A43 q10 _))];obtain⟨c1,d1,dt1,s1'⟩:=oT';dsimp only at q10;subst q10;refine congrArg some ?_;show Obj.mk c1 d1 (Data.fields (ts'.setIfInBounds 3 .none)) s1'=_;rw[as4 q11]
    rw[A1D _ _ (Ne.symm e)];exact z
   have I5:Inv X pins σ2 H3 {s3 with heap:=h4.update T' (Obj.mapFields (·.setIfInBounds 3 .none))}:=I4.kept (t':=s3.toks) same
   refine Mo (X:=X) (v:=.ref a) I5 hN hi (.inl hk) rfl (λs6 I6=>?_) (.inr hk);refine thn (hs a _ pins s6 _ H3 _ (I6.hnd a _) q3) λf s7 h7=>?_
   cases f with
   |next=>obtain⟨σ7,H7,I7,q7'⟩:=h7;exact Ql (I7.unhnd hd4) hN hi hk λs8 I8=>⟨_,_,I8,q7'⟩
   |brk=>obtain⟨σ7,H7,I7,q7'⟩:=h7;exact Ql (I7.unhnd hd4) hN hi hk λs8 I8=>⟨_,_,I8,q7'⟩
   |cont=>obtain⟨σ7,H7,I7,q7'⟩:=h7;exact Ql (I7.unhnd hd4) hN hi hk λs8 I8=>⟨_,_,I8,q7'⟩
   |ret u=>obtain⟨v,σ7,H7,I7,r7,q7'⟩:=h7;exact Ql (I7.unhnd hd4) hN hi hk λs8 I8=>⟨v,_,_,I8,r7,q7'⟩
 have hs1:=hs1.untri
 cases f with
 |next=>exact A09 hs1
 |brk=>exact hs1
 |cont=>exact hs1
 |ret u=>exact hs1
end
def aL7 (P:Program)(w:World)(K:W.Frag)(mg:Str->Option Value)(base:Heap)(k:Nat)(x:Str)(ps:List Str)(sp:Sp):Prop:=
 ∃ f fd,FnOk P w K mg base (CX1 P w) k f fd ps sp/\mg x=some (.ref f)/\W.keepIn K (.ref f)=true/\Binds K fd ps []
section
variable {X:Cx}{k:Nat}{x:Str}{ps:List Str}{sp:Sp}{e:Expr}{es:List Expr}{t:TA}{p pos:Pos}{E:XK}
theorem ah8 (F:aL7 X.prog X.w X.K X.mg X.base k x ps sp)(hr:Room k X.A)(hg:Gl X x)(hx:Gh (CX1 X.prog X.w) X E)(ha:PA X (e :: es) t)(hdb:(x==("__debug__":Str))=false:=by decide)
  (he:starEach (e :: es) X.env=(false,eval e X.env) :: starEach es X.env:=by ac_nf) (hpl:(backTo pos (starEach es X.env)).any (·.1)=false:=by ac_nf):PE X (.Call (.Name x p) (e :: es) [] pos) (a81 sp [] E t):=by
 obtain⟨f,fd,h1,h2,h3,h4⟩:=F;exact Ye h1 hr hg h2 h3 h4 .nil hx ha hdb he hpl
end
section
variable {P:Program}{w:World}{K:W.Frag}{mg:Str->Option Value}{base:Heap}
theorem Fun.ok1 {x qual:Str}{st:Stmt}{f:Addr}{fd:FuncData}{N ps:List Str}{k:Nat}{sp:Sp}(F:Fun K x qual st f fd)(S:Ag N ps (A4 st))(len:∀ vs H Q E,sp vs H Q E->vs.length=ps.length)
  (hbody:∀(cdv:Value) (A:Around) (outer:List Env) (s:Shared) (H:Hp) (vs:List V) (Q:VK) (E:XK),Room k (A.deeper (envOfC qual (A4 st) s.heap.objs.size f cdv))->sp vs H Q E ->
   ∃ t,PSs (Ul (CX1 P w) P w K mg base N qual (A4 st) f cdv A outer s H E) (Aa st) t/\t {nx:=λ_ H'=>Q .non H',rt:=Q} (start N vs) H):FnOk P w K mg base (CX1 P w) (k+1) f fd ps sp:=by
 obtain⟨oc,od,kV,doc,pm,an,cdv,ct,osl,rfl,lk,hcd⟩:=F.ex;exact av9 lk hcd S len λA outer s H vs Q E hr hsp=>hbody cdv A outer s H vs Q E hr hsp
end
section
variable {K:W.Frag}{σ:St}{H H0:Hp}{D:Ends}{t:TE}{C a:Addr}{fs:List (Str×V)}{E:XK}
theorem i_sRaise (k:t σ H λx H1=>Z4 K H0 E x H1):ah4 K H0 E t D σ H:=k
theorem Ld (h:ExA H a C fs)(c:XC K C)(h0:H0 a=none)(k:∀ H2,(∀ b o,b≠a->H b=some o->H2 b=some o)->ExB false H2 a C fs->E (.ref a) none H2):Z4 K H0 E (.ref a) H:=by
 have kp:∀ od b o,b≠a->H b=some o->upd H a (exG false a C od) b=some o:=λod b o hb q=>by rw[Ah hb];exact q
 rcases h with ⟨e1,h⟩|⟨dx,ne,h,g⟩
 . exact⟨a,C,none,rfl,h,c,h0,k _ (kp _) (.inl ⟨e1,A9⟩)⟩
 exact⟨a,C,some dx,rfl,h,c,h0,k _ (kp _) (.inr ⟨dx,ne,A9,kp _ _ _ ne g⟩)⟩
end
section
open Lean
def mWay (s:String):MacroM (TSyntax `tactic):=
 if s == "as" then `(tactic| assumption) else if s == "ar" then `(tactic| with_reducible assumption) else `(tactic| walk_at $(quote s))
def Zk (ts:Array (TSyntax `tactic)):MacroM (TSyntax `tactic):=do
 let ts <- ts.mapM λt=>`(Lean.Parser.Tactic.tacticSeq| $t:tactic)
 `(tactic| first $[| $ts]*)
def mId (s:String):Ident:=mkIdent ((s.splitOn ".").foldl Name.mkStr Name.anonymous)
def mIs (s:String):MacroM Ident:=do return mkIdent (<- Macro.addMacroScope (.mkSimple s))
def Z5:List String->TSyntax `tactic->MacroM (TSyntax `tactic)
 | [],t=>pure t
 |s :: r,t=>do
   match s.splitOn "=" with
   | [x,y]=>let w <- mWay y;let i <- mIs x;Z5 r (<- `(tactic| ($t:tactic;(case $i:ident=>$w:tactic))))
   |_=>Z5 r t
def mRow (s:String):MacroM (TSyntax `tactic):=do
 match s.splitOn ": " with
 | [h,c]=>
   match h.splitOn " " with
   |f :: as=>
     let xs <- as.toArray.mapM λa=>do if a == "_" then `(?_) else `(?$(<- mIs a))
     let u:=Syntax.mkApp (mId f) xs
     let t <- if as.contains "_" then `(tactic| with_reducible refine' $u) else `(tactic| refine' $u)
     Z5 (c.splitOn " ") t
   |_=>Macro.throwUnsupported
 |_=>do
   if s == "as" then `(tactic| assumption)
   else if s == "no" then `(tactic| fail "no")
   else `(tactic| exact $(mId s))
def mRows (s:String):MacroM (TSyntax `tactic):=do Zk (<- (s.splitOn " | ").toArray.mapM mRow)
def mAlts (s:String):MacroM (TSyntax `tactic):=do
 let a <- Zk (<- (s.splitOn " ").toArray.mapM λn=>`(tactic| refine $(mId n) ?_))
 `(tactic| with_reducible $a:tactic)
def mAltG (s:String):MacroM (TSyntax `tactic):=do
 let a <- Zk (<- (s.splitOn " ").toArray.mapM λn=>`(tactic| refine $(mId n) λN hN=>?_))
 `(tactic| with_reducible $a:tactic)
end
section
open PySem
theorem same_refl {H:Hp}:Same H H:=Same.refl _
theorem fz_refl {H:Hp}:Fz H H:=Fz.refl _
theorem ne_none2 {H:Hp}{a b:PySem.Addr}{o:HO}(h:H a=some o)(g:H b=none):b≠a:=Ne.symm (ne_of_none h g)
def Cut (N M:St->Hp->Prop):Prop:=∀ σ H,M σ H->N σ H
section
variable {t u:TS}{te td ty tv:TE}{g:TG}{D:Ends}{σ:St}{H:Hp}
theorem aF9 (k:∀ N:St->Hp->Prop,Cut N (u D)->t {D with nx:=N} σ H):aL4 t u D σ H:=k (u D) λ_ _ h=>h
theorem i_seqAG (k:∀ N:St->Hp->Prop,Cut N (u D)->aI0 te g {D with nx:=N} σ H):aL4 (aI0 te g) u D σ H:=k (u D) λ_ _ h=>h
theorem i_nxS {i:Nat}{rt:VK}{bk ct:St->Hp->Prop}(k:D.nx (σ.set i none) H):Ends.nx {nx:=fun σ2 H2=>D.nx (σ2.set i none) H2,rt:=rt,bk:=bk,ct:=ct} σ H:=k
theorem i_cutN {N M:St->Hp->Prop}(h:Cut N M)(k:M σ H):N σ H:=h _ _ k
end
theorem aC1 {α:Type}{P:List α->Prop}{us:List α}(hl:us.length=0)(h:P []):P us:=by rw[A1C.mp hl];exact h
theorem aj3 {α:Type}{P:List α->Prop}{us:List α}(hl:us.length=1)(h:∀ a0:α,P [a0]):P us:=by
 cases us with
 |nil=>cases hl
 |cons a r=>exact aC1 (P:=λr=>P (a :: r)) (Nat.succ.inj hl) (h a)
theorem al2 {α:Type}{P:List α->Prop}{us:List α}(hl:us.length=2)(h:∀ a0 a1:α,P [a0,a1]):P us:=by
 cases us with
 |nil=>cases hl
 |cons a r=>exact aj3 (P:=λr=>P (a :: r)) (Nat.succ.inj hl) (h a)
theorem am5 {α:Type}{P:List α->Prop}{us:List α}(hl:us.length=3)(h:∀ a0 a1 a2:α,P [a0,a1,a2]):P us:=by
 cases us with
 |nil=>cases hl
 |cons a r=>exact al2 (P:=λr=>P (a :: r)) (Nat.succ.inj hl) (h a)
theorem aI4 {α:Type}{P:List α->Prop}{us:List α}(hl:us.length=4)(h:∀ a0 a1 a2 a3:α,P [a0,a1,a2,a3]):P us:=by
 cases us with
 |nil=>cases hl
 |cons a r=>exact am5 (P:=λr=>P (a :: r)) (Nat.succ.inj hl) (h a)
end
section
variable {K:W.Frag}{x qual:Str}{st:Stmt}{f:Addr}{fd:FuncData}
theorem Do {p0:Str}(F:Fun K x qual st f fd)(h:∀(kV doc pm:Value) (an:Option Addr) (cdv ct:Value) (u0:Value),bindArgs (W.fnOf x qual (Ac st) (Aa st) (A4 st) .none kV doc pm an cdv ct) ⟨[u0],[]⟩=pure (([p0]:List Str).zip [u0])):Binds K fd [p0] []:=
 F.binds λkV doc pm an cdv ct us hl=>aj3 (P:=λus=>bindArgs (W.fnOf x qual (Ac st) (Aa st) (A4 st) .none kV doc pm an cdv ct) ⟨us,[]⟩=pure (([p0]:List Str).zip us)) hl (h kV doc pm an cdv ct)
theorem Hb {p0 p1:Str}(F:Fun K x qual st f fd)(h:∀(kV doc pm:Value) (an:Option Addr) (cdv ct:Value) (u0 u1:Value),bindArgs (W.fnOf x qual (Ac st) (Aa st) (A4 st) .none kV doc pm an cdv ct) ⟨[u0,u1],[]⟩=pure (([p0,p1]:List Str).zip [u0,u1])):Binds K fd [p0,p1] []:=
 F.binds λkV doc pm an cdv ct us hl=>al2 (P:=λus=>bindArgs (W.fnOf x qual (Ac st) (Aa st) (A4 st) .none kV doc pm an cdv ct) ⟨us,[]⟩=pure (([p0,p1]:List Str).zip us)) hl (h kV doc pm an cdv ct)
theorem M5 {p0 p1 p2:Str}(F:Fun K x qual st f fd)(h:∀(kV doc pm:Value) (an:Option Addr) (cdv ct:Value) (u0 u1 u2:Value),bindArgs (W.fnOf x qual (Ac st) (Aa st) (A4 st) .none kV doc pm an cdv ct) ⟨[u0,u1,u2],[]⟩=pure (([p0,p1,p2]:List Str).zip [u0,u1,u2])):Binds K fd [p0,p1,p2] []:=
 F.binds λkV doc pm an cdv ct us hl=>am5 (P:=λus=>bindArgs (W.fnOf x qual (Ac st) (Aa st) (A4 st) .none kV doc pm an cdv ct) ⟨us,[]⟩=pure (([p0,p1,p2]:List Str).zip us)) hl (h kV doc pm an cdv ct)
theorem aD5 {p0 p1 p2 p3:Str}(F:Fun K x qual st f fd)(h:∀(kV doc pm:Value) (an:Option Addr) (cdv ct:Value) (u0 u1 u2 u3:Value),bindArgs (W.fnOf x qual (Ac st) (Aa st) (A4 st) .none kV doc pm an cdv ct) ⟨[u0,u1,u2,u3],[]⟩=pure (([p0,p1,p2,p3]:List Str).zip [u0,u1,u2,u3])):Binds K fd [p0,p1,p2,p3] []:=
 F.binds λkV doc pm an cdv ct us hl=>aI4 (P:=λus=>bindArgs (W.fnOf x qual (Ac st) (Aa st) (A4 st) .none kV doc pm an cdv ct) ⟨us,[]⟩=pure (([p0,p1,p2,p3]:List Str).zip us)) hl (h kV doc pm an cdv ct)
end
def aC5 (K:W.Frag):R2:=λx y H Q=>∃ a b xs,x = .ref a/\y = .ref b/\SqL K H a xs/\SqL K H b []/\Q (.bl (!xs.isEmpty)) H
theorem a67 {X:Cx}{K:W.Frag}(hq:QA X.A)(hK:X.K=K:=by ac_nf):OpR X (compareOp .NotEq) (aC5 K):=by
 subst hK;intro pins s σ H x y v u Q I rx ry h;obtain⟨a,b,xs,rfl,rfl,ha,hb,q⟩:=h
 cases rx
 cases ry;obtain⟨its,rv,la,_⟩:=I.list ha;obtain⟨its2,rv2,lb,_⟩:=I.list hb
 cases rv2;have hu:X.A.units<cLine:=by have:=hq.un;omega
 have la':s.heap.IsList a its.toArray:=let ⟨o,n,e1,e2,e3,e4⟩:=la;⟨o,e1,e2,_,e4⟩;have lb':s.heap.IsList b ([]:List Value).toArray:=let ⟨o,n,e1,e2,e3,e4⟩:=lb;⟨o,e1,e2,_,e4⟩
 cases xs with
 |nil=>cases rv;have r:=SeqAt.RcNeAt.lists (A:=X.A) (s:=s) (e:=λ_=>true) la' lb' rfl hu (λj h1=>absurd h1 (by simp));exact r _ _ _ _ ⟨.bl _,H,I,rfl,q⟩
 |cons x r=>
   cases rv with
   |cons r1 r2=>have r:=SeqAt.RcNeAt.lists_lengths (A:=X.A) (s:=s) la' lb' (by simp) hu;exact r _ _ _ _ ⟨.bl _,H,I,rfl,q⟩
theorem am6 {K:W.Frag}{H:Hp}{Q:VK}{a b:Addr}{xs:List V}(h:SqL K H a xs)(h':SqL K H b [])(k:Q (.bl (!xs.isEmpty)) H):aC5 K (.ref a) (.ref b) H Q:=⟨a,b,xs,rfl,rfl,h,h',k⟩
section
open PySem.SeqAt PySem.MeetsSeq
variable {A:Around}{s:Shared}
end
section
variable {prog:Program}{w:World}{A:Around}{E:Value->Shared->Prop}{s:Shared}
set_option maxRecDepth 100000 in
end
section
variable {X:Cx}{pos p2:Pos}
end
section
variable {P:Program}{w:World}{A:Around}{E:Value->Shared->Prop}{z:Shared}
end
section
variable {X:Cx}{K:W.Frag}
end
section
variable {K:W.Frag}{H:Hp}{Q:VK}
end
section
variable {X:Cx}{pins:List (Addr×Obj)}{σ:St}{H:Hp}{s:Shared}
end
def aG7 (K:W.Frag):R2:=λx y H Q=>∃ a b xs,x = .ref a/\y = .ref b/\SqL K H a xs/\SqL K H b []/\Q (.bl xs.isEmpty) H
theorem Uo {X:Cx}{K:W.Frag}(hq:QA X.A)(hK:X.K=K:=by ac_nf):OpR X (compareOp .Eq) (aG7 K):=by
 subst hK;intro pins s σ H x y v u Q I rx ry h;obtain⟨a,b,xs,rfl,rfl,ha,hb,q⟩:=h
 cases rx
 cases ry;obtain⟨its,rv,la,_⟩:=I.list ha;obtain⟨its2,rv2,lb,_⟩:=I.list hb
 cases rv2;have hu:X.A.units<cLine:=by have:=hq.un;omega
 have la':s.heap.IsList a its.toArray:=let ⟨o,n,e1,e2,e3,e4⟩:=la;⟨o,e1,e2,_,e4⟩;have lb':s.heap.IsList b ([]:List Value).toArray:=let ⟨o,n,e1,e2,e3,e4⟩:=lb;⟨o,e1,e2,_,e4⟩
 cases xs with
 |nil=>cases rv;exact SeqAt.eq_listAt (e:=λ_=>true) la' lb' rfl hu (λj h1=>absurd h1 (by simp)) ⟨.bl _,H,I,rfl,q⟩
 |cons x r=>
   cases rv with
   |cons r1 r2=>exact SeqAt.eq_list_lengthsAt la' lb' (by simp) hu ⟨.bl _,H,I,rfl,q⟩
theorem Zy {K:W.Frag}{H:Hp}{Q:VK}{a b:Addr}{xs:List V}(h:SqL K H a xs)(h':SqL K H b [])(k:Q (.bl xs.isEmpty) H):aG7 K (.ref a) (.ref b) H Q:=⟨a,b,xs,rfl,rfl,h,h',k⟩
mutual
def ar5:PyData->Bool
 |.str z=>z.cps.toList.all λc=>decide (c<128)
 |.list ds=>al5 ds
 |.tuple ds=>al5 ds
 |.dict _=>false
 |_=>true
def al5:List PyData->Bool
 | []=>true
 |d :: ds=>ar5 d&&al5 ds
end
mutual
def ax3:PyData->Nat
 |.list ds=>max ds.length (ah6 ds)
 |.tuple ds=>max ds.length (ah6 ds)
 |_=>0
def ah6:List PyData->Nat
 | []=>0
 |d :: ds=>max (ax3 d) (ah6 ds)
end
structure Dk (p w W:Nat)(D:PyData):Prop where
 asc:ar5 D=true
 lay:D.canLay0=true
 sh:D.showable=true
 lv:D.leavesShort 45=true
 dp:D.depth<=p
 wt:D.weight<=w
 wd:ax3 D<=W
structure Els (p w W:Nat)(ds:List PyData):Prop where
 all:∀ e∈ds,∃ u,Dk p u W e
 wt:PyData.weightAll ds<=w
 len:ds.length<=W
theorem Dk.le {p w W p' w' W':Nat}{D:PyData}(h:Dk p w W D)(h1:p<=p')(h2:w<=w')(h3:W<=W':=by omega):Dk p' w' W' D:=⟨h.asc,h.lay,h.sh,h.lv,A0L h.dp h1,A0L h.wt h2,A0L h.wd h3⟩
theorem Yp {p W:Nat}:∀ {ds:List PyData},(∀ e∈ds,∃ u,Dk p u W e)->al5 ds=true/\PyData.canLayAll0 ds=true/\PyData.showableAll ds=true/\PyData.leavesShortAll 45 ds=true/\PyData.depthAll ds<=p/\ah6 ds<=W
 | [],_=>⟨by simp only[al5],by simp only[PyData.canLayAll0],by simp only[PyData.showableAll],by simp only[PyData.leavesShortAll],by simp only[PyData.depthAll];omega,by simp only[ah6];omega⟩
 |d :: ds,h=>by obtain⟨u,a⟩:=h d (by simp);obtain⟨b0,b1,b2,b3,b4,b5⟩:=Yp (ds:=ds) λe he=>h e (by simp[he]);have:=a.dp;have:=a.wd;exact⟨by simp only[al5,a.asc,b0,Bool.and_self],by simp only[PyData.canLayAll0,a.lay,b1,Bool.and_self],by simp only[PyData.showableAll,a.sh,b2,Bool.and_self],by simp only[PyData.leavesShortAll,a.lv,b3,Bool.and_self],by simp only[PyData.depthAll];omega,by simp only[ah6];omega⟩
theorem Zu {p W:Nat}:∀ {ds:List PyData},al5 ds=true->PyData.canLayAll0 ds=true->PyData.showableAll ds=true->PyData.leavesShortAll 45 ds=true->PyData.depthAll ds<=p->ah6 ds<=W->∀ e∈ds,∃ u,Dk p u W e
 | [],_,_,_,_,_,_=>λe he=>by cases he
 |d :: ds,h0,h1,h2,h3,h4,h5=>λe he=>by
   simp only[al5,PyData.canLayAll0,PyData.showableAll,PyData.leavesShortAll,PyData.depthAll,ah6,Bool.and_eq_true] at h0 h1 h2 h3 h4 h5;rcases A0C.mp he with rfl|he
   . exact⟨_,h0.1,h1.1,h2.1,h3.1,by omega,A07 _,by omega⟩
   exact Zu h0.2 h1.2 h2.2 h3.2 nofun nofun e he
theorem Kx {p w W:Nat}{ds:List PyData}(h:Els p w W ds):Dk (p+1) w W (.tuple ds):=by obtain⟨a0,a1,a2,a3,a4,a5⟩:=Yp h.all;have:=h.len;exact⟨by simpa only[ar5] using a0,by simpa only[PyData.canLay0] using a1,by simpa only[PyData.showable] using a2,by simpa only[PyData.leavesShort] using a3,by simp only[PyData.depth];omega,by simpa only[PyData.weight] using h.wt,by simp only[ax3];omega⟩
theorem Dk.els {p w W:Nat}{ds:List PyData}(h:Dk (p+1) w W (.tuple ds)):Els p w W ds:=by obtain⟨a0,a1,a2,a3,a4,a5,a6⟩:=h;simp only[ax3,ar5,PyData.canLay0,PyData.showable,PyData.leavesShort,PyData.depth,PyData.weight] at a0 a1 a2 a3 a4 a5 a6;exact⟨Zu a0 a1 a2 a3 nofun nofun,a5,by omega⟩
theorem al8:∀ as bs:List PyData,PyData.weightAll (as++bs)=PyData.weightAll as+PyData.weightAll bs
 | [],bs=>by simp only[List.nil_append,PyData.weightAll];omega
 |a :: as,bs=>by have:=al8 as bs;simp only[List.cons_append,PyData.weightAll];omega
theorem Els.app {p w w' W:Nat}{as bs:List PyData}(h:Els p w W as)(g:Els p w' W bs){W':Nat}(hl:as.length+bs.length<=W')(hW:W<=W'):Els p (w+w') W' (as++bs):=
 ⟨λe he=>let ⟨u,k⟩:=(A0G.mp he).elim (h.all e) (g.all e);⟨u,k.le (A07 _) (A07 _) hW⟩,by rw[al8];exact Nat.add_le_add h.wt g.wt,by rw[A0T];exact hl⟩
theorem Els.one {p w W:Nat}{D:PyData}(h:Dk p w W D)(hW:1<=W):Els p (w+1) W [D]:=⟨λe he=>by rw[List.mem_singleton.mp he];exact⟨w,h⟩,by simp only[PyData.weightAll];have:=h.wt;omega,by simpa using hW⟩
def Asc (z:Str):Prop:=∀ c∈z.cps.toList,c<128
theorem Asc.ok {z:Str}(h:Asc z):PyData.strOk z=true:=by unfold PyData.strOk;rw[<- Array.all_toList,A1B];intro c hc;have:=h c hc;exact A0Z nofun
theorem W4 {p w W:Nat}{z:Str}(h:Asc z)(hl:z.length<=w):Dk p w W (.str z):=by
 refine⟨?_,by simpa only[PyData.canLay0] using h.ok,by simp only[PyData.showable],?_,by simp only[PyData.depth];omega,by simp only[PyData.weight];exact hl,by simp only[ax3];omega⟩
 . simp only[ar5];rw[A1B];exact λc hc=>A0Z (h c hc)
 simp only[PyData.leavesShort];rw[A1B];intro c hc;have:=h c hc;exact A0Z nofun
theorem Dk.str {p w W:Nat}{z:Str}(h:Dk p w W (.str z)):Asc z/\z.length<=w:=by obtain⟨a0,_,_,_,_,a5,_⟩:=h;simp only[ar5,List.all_eq_true] at a0;simp only[PyData.weight] at a5;exact⟨λc hc=>of_decide_eq_true (a0 c hc),a5⟩
section
variable {X:Cx}{K:W.Frag}
def a06 (K:W.Frag):List V->Hp->VK->Prop:=λxs H Q=>∃ x d,xs=[x]/\Is K H d x/\d.showable=true/\d.shown.length<=sizeLine/\d.depth<=100/\Q (.str d.shown) H
theorem X8 (hq:QA X.A):CallR X (.builtin "repr") (a06 X.K):=by
 intro pins s σ H xs us Q I rv h;obtain⟨x,d,rfl,i,hs,hf,hd,q⟩:=h
 cases d with
 |none=>simp only[Is] at i;subst i;exact Pr pins s σ H _ us Q I rv (.inr ⟨rfl,q⟩)
 |bool b=>
   simp only[Is] at i;subst i;refine Pr pins s σ H _ us Q I rv (.inl ⟨b,rfl,?_⟩)
   cases b<;>exact q
 |int n=>simp only[Is] at i;subst i;exact Wy pins s σ H _ us Q I rv ⟨n,rfl,of_decide_eq_true (by simpa only[PyData.showable] using hs),q⟩
 |str z=>simp only[Is] at i;subst i;obtain⟨u,rfl,ru⟩:=rv.one;obtain⟨t,rfl⟩:=ru;exact PySem.P.repr_of_str ⟨.str _,H,I.tok _,⟨_,rfl⟩,q⟩ hf
 |list ds=>exact Po hq pins s σ H _ us Q I rv ⟨x,_,rfl,i,⟨rfl,hs,hf,hd⟩,q⟩
 |tuple ds=>exact Po hq pins s σ H _ us Q I rv ⟨x,_,rfl,i,⟨rfl,hs,hf,hd⟩,q⟩
 |dict kvs=>simp only[Is] at i
theorem Dr (hq:QA X.A)(hK:X.K=K:=by ac_nf):CallR X (.builtin "repr") (a06 K):=hK ▸ X8 hq
theorem Kf {H:Hp}{Q:VK}{d:PyData}{x:V}(h:Is K H d x)(h1:d.showable=true)(h2:d.shown.length<=sizeLine)(h3:d.depth<=100)(k:Q (.str d.shown) H):a06 K [x] H Q:=⟨x,d,rfl,h,h1,h2,h3,k⟩
theorem Dk.told {p w W:Nat}{D:PyData}(h:Dk p w W D)(hp:p<=60)(hw:w<=100000):D.showable=true/\D.shown.length<=sizeLine/\D.depth<=100:=by have h2:=PyData.shown_le 45 ∅ D h.lv;have h3:=h.wt;have h4:=h.dp;refine⟨h.sh,?_,by omega⟩;rw[A1F];omega
end
section
variable {prog:Program}{w:World}{A:Around}{E:Value->Shared->Prop}{s:Shared}
end
section
variable {P:Program}{w:World}{A:Around}{R:Result->Shared->Prop}{it:Addr}{fp wr:List Addr}{G:Array GenState->Array GenState->Prop}{n:Nat}{PV:Nat->Value->Prop}{St:Nat->Shared->Prop}
end
section
variable {prog:Program}{w:World}{A:Around}{E:Value->Shared->Prop}{s:Shared}
set_option maxHeartbeats 3200000 in
end
section
variable {X:Cx}{K:W.Frag}
end
end L2
namespace L2
open PySem PySem.Spec PyProof.Rows
open Builtin
section
variable {X:Cx}{K:W.Frag}
end
end L2
namespace L2
open PySem PySem.Spec PyProof.Rows
section
variable {P:Program} {w:World} {K:W.Frag} {mg:Str->Option Value} {base:Heap} {k:Nat} {f:Addr} {fd:FuncData} {ps:List Str} {sp sp':Sp}
end
theorem Nn:∀(k fuel n:Nat) (ds:List Char),1<=k->n<10 ^ k->(Nat.toDigitsCore 10 fuel n ds).length<=ds.length+k
 |_,0,n,ds,_,_=>by simp[Nat.toDigitsCore]
 |k,fuel+1,n,ds,hk,hn=>by
   unfold Nat.toDigitsCore;dsimp only
   split
   . simp;omega
   rename_i h0
   cases k with
   |zero=>omega
   |succ k=>
     have h1:n / 10<10 ^ k:=by rw[Nat.div_lt_iff_lt_mul nofun];rw[Nat.pow_succ] at hn;exact hn
     have hk1:1<=k:=by
      cases k with
      |zero=>simp at h1;omega
      |succ _=>omega
     have:=Nn k fuel (n / 10) (Nat.digitChar (n % 10) :: ds) hk1 h1;rw[A0N] at this;omega
theorem au4 (s:String):(s:Str).length=s.toList.length:=by show(Str.ofString s).cps.size=_;rw[Str.ofString_eq_byList];unfold Str.ofStringByList;simp
theorem Vk {n:Nat}(h:n<10 ^ 44):(Nat.repr n).toList.length<=44:=by unfold Nat.repr Nat.toDigits;have:=Nn 44 (n+1) n [] nofun h;simpa using this
theorem a48 {m:Int} (h:m.natAbs<10 ^ 44):(PyData.int m).shown.length<=45:=by
 simp only[PyData.shown];rw[au4]
 cases m with
 |ofNat n=>have:(toString (Int.ofNat n):String)=Nat.repr n:=rfl;rw[this];exact A0L (Vk h) nofun
 |negSucc n=>
   have:(toString (Int.negSucc n):String) = "-" ++ Nat.repr (n+1):=rfl;rw[this];have h2:=Vk (n:=n+1) h;rw[String.toList_append,A0T];have:("-":String).toList.length=1:=by decide
   omega
theorem an7 {m:Int}(h:m.natAbs<10 ^ 44):m.natAbs.log2<147:=by
 by_cases h0:m.natAbs=0
 . rw[h0];decide
 exact(Nat.log2_lt h0).mpr (A4R h ∅)
theorem Z2 {p W:Nat}{m:Int}(h:m.natAbs<10 ^ 44):Dk p 150 W (.int m):=by
 have hl:=an7 h;refine⟨by simp only[ar5],by simp only[PyData.canLay0],?_,?_,by simp only[PyData.depth];omega,?_,by simp only[ax3];omega⟩
 . simp only[PyData.showable];exact A0Z nofun
 . simp only[PyData.leavesShort];exact A0Z (a48 h)
 simp only[PyData.weight]
 split<;>omega
section
variable {P:Program}{w:World}{A:Around}{E:Value->Shared->Prop}{z:Shared}
end
section
variable {X:Cx}{K:W.Frag}
end
section
variable {K:W.Frag}{σ:St}{H:Hp}{Q:VK}
end
section
variable {X:Cx}{K:W.Frag}{H:Hp}{Q:VK}
end
section
variable {X:Cx}{K:W.Frag}
end
section
variable {α:Type}[DecidableEq α]
end
section
variable {X:Cx}{pins:List (Addr×Obj)}{σ:List (Option V)}{H:Hp}{s:Shared}{h':Heap}
theorem Inv.nsed {t':Nat}(I:Inv X pins σ H s)(k:∀ b u,b≠X.env.locals->s.heap.get? b=some u->h'.get? b=some u){m:Str->Option Value}(hlk:∀(i:Nat) (x:Str) (v:V),X.N[i]? = some x->σ[i]? = some (some v)->Vis X.env.scope x->∃ u,RelV v u/\aQ6 X.env s.heap m x u)(hns:h'.Ns X.env.locals m):Inv X pins σ H {s with heap:=h',toks:=t'}:=by
 have low:∀ b o,X.s₀.heap.get? b=some o->b≠X.env.locals:=λb o q e=>by have h1:=A06 q;have h2:=I.ok.above;rw[e] at h1;exact absurd (A10 h1 h2) (A1P _)
 refine⟨I.ok,I.os,I.bare,⟨λb o q n hf hx=>k b o (low b o q) (I.base.keep b o q n hf hx),λb o q n hf hx=>?_,I.base.free,λb o q hx=>?_,I.base.tups,I.base.frzs,I.base.tbls⟩,?_,λx c e=>?_,I.free,I.freeC,λp hp=>?_,λa o e=>?_,I.len⟩
 . obtain⟨sl,e⟩:=I.base.slot b o q n hf hx;exact⟨sl,k b _ (low b o q) e⟩
 . obtain⟨o',e⟩:=I.base.there b o q hx;exact⟨o',k b _ (low b o q) e⟩
 . refine⟨m,hns,λi x v a b c=>?_⟩;obtain⟨u,r,l⟩:=hlk i x v a b c;refine⟨u,r,?_⟩;rcases l with l|⟨l1,c,l2,l3⟩
   . exact .inl l
   obtain⟨o,e1,e2⟩:=l3;exact .inr ⟨l1,c,l2,o,k c o (I.cne x c l2) e1,e2⟩
 . obtain⟨v,o,e1,e2⟩:=I.cell x c e;exact⟨v,o,k c o (I.cne x c e) e1,e2⟩
 . obtain⟨h1,h2,h3,h4,h5⟩:=I.pin p hp;exact⟨k _ _ h3 h1,h2,h3,h4,h5⟩
 refine(I.hok a o e).stay (λb u hb q=>k b u (λz=>?_) q) (λ_ q=>q) λ_ _ q=>q;have:=I.free;rcases hb with rfl|hb
 . rw[z] at e;rw[e] at this
   cases this
 rw [z,this] at hb
 cases hb
theorem T9 {g h:Heap}{L:Addr}(hb:∀ b o,g.get? b=some o->h.get? b=some o)(hb':∀ b o,g.get? b=some o->h'.get? b=some o){more:List (Addr×Obj)}(N:News g L h' (Ix g h L++more)):∀ b u,b≠L->h.get? b=some u->h'.get? b=some u:=λb u n e=>by
 cases hc:g.get? b with
 |some o=>
   have:=hb b o hc;rw[e] at this
   cases this;exact hb' b u hc
 |none=>exact(N (b,u) (A0X _ (Ur n hc e))).1
variable {K:W.Frag}
end
section
variable {α:Type}[DecidableEq α]
def Ta (b:α->α->Bool):α->α->Bool:=λx y=>b y x
theorem aq3 {b:α->α->Bool}{r:List α}:okR (Ta b) r↔okR b r.reverse:=by
 unfold okR Ta;rw[List.pairwise_reverse];constructor
 . rintro⟨h1,h2⟩;exact⟨λu hu=>h1 u (List.mem_reverse.mp hu),h2⟩
 rintro⟨h1,h2⟩;exact⟨λu hu=>h1 u (List.mem_reverse.mpr hu),h2⟩
theorem ac0 {b:α->α->Bool}{L r:List α}(hn:L.Nodup):r∈ext (Ta b) L.length L↔r.reverse∈ext b L.length L:=by rw[Jc _ _ _ _ hn rfl,Jc _ _ _ _ hn rfl,aq3];exact and_congr_left λ_=>⟨λh=>(List.reverse_perm r).trans h,λh=>(List.reverse_perm r).symm.trans h⟩
theorem aa3 {b:α->α->Bool}{L:List α}(hn:L.Nodup):(ext (Ta b) L.length L).Perm ((ext b L.length L).map List.reverse):=by have hm:((ext b L.length L).map List.reverse).Nodup:=List.Pairwise.map _ (λx y h e=>h (by rw[<- A31 x,e,A31])) (Iu b _ _ hn);refine(List.perm_ext_iff_of_nodup (Iu _ _ _ hn) hm).mpr λr=>?_;rw[ac0 hn,A0E];exact⟨λh=>⟨_,h,A31 r⟩,λ⟨q,hq,e⟩=>by rw[<- e,A31];exact hq⟩
theorem af1 {b:α->α->Bool}{L:List α}(hn:L.Nodup):cnt (Ta b) L=cnt b L:=by unfold cnt;rw[(aa3 hn).length_eq,A02]
end
section
variable {α:Type}[DecidableEq α]
variable {β:Type}[DecidableEq β]
end
section
variable {X:Cx}{k:Nat}{x:Str}{ps:List Str}{sp:Sp}{e:Expr}{es:List Expr}{t:TA}{p pos:Pos}{E:St->XK}
end
section
variable {X:Cx}{pins:List (Addr×Obj)}
end
section
variable {α:Type}[DecidableEq α]
end
section
variable {ns ns':List Str}{ps ps':List (Str×Str)}
variable {qs:List (Str×Str)}
theorem at9 (ps:List (Str×Str)):Be (ps.map sw)=Ta (Be ps):=by funext x y;exact(Zt (by rw[Ta,wayB_iff];exact way_sw.symm)).symm
end
section
variable {M:Model}{A:Around}{E:Value->Shared->Prop}{s:Shared}{base:Heap}{env:Env}{outer:List Env}{L a:Addr}{oe:Obj}{vs:Array Value}{Q:Unit->Shared->Prop}
end
section
variable {P:Program}{w:World}{fs:List Addr}{a C:Addr}{od:Option Addr}{oe:Obj}{old:List Addr}{h h':Heap}{H:Hp}{n:Bool}
end
section
variable {P:Program}{w:World}{K:W.Frag}{mg:Str->Option Value}{base:Heap}{N:List Str}{qual:Str}{scope:Scope}{f:Addr}{cd:Value}{A:Around}{outer:List Env}{s₀:Shared}{H₀:Hp}{E:XK}
end
structure KpF (fs:List Addr)(a:Addr)(old:List Addr)(h h':Heap):Prop where
 keep:∀ b o,b∉fs->b≠a->b∉old->h.get? b=some o->h'.get? b=some o
 slot:∀ b o,b∈fs->h.get? b=some o->∃ sl,h'.get? b=some {o with slots:=sl}
 there:∀ b o,b∉old->h.get? b=some o->∃ o',h'.get? b=some o'
section
variable {P:Program}{w:World}{K:W.Frag}{mg:Str->Option Value}{base:Heap}{N:List Str}{qual:Str}{scope:Scope}{f:Addr}{cd:Value}{A:Around}{outer:List Env}{s₀:Shared}{H₀:Hp}{E:XK}
end
section
variable {X:Cx}{scope:Scope}{xs fr:List Str}{pins:List (Addr×Obj)}{σ:St}{H:Hp}{s:Shared}{js:List Nat}{fp:List Addr}
end
def Tr (P:Program)(w:World)(K:W.Frag)(mg:Str->Option Value)(base:Heap)(k:Nat)(C:Addr)(m:Str)(ps:List Str)(sp:Sp):Prop:=
 ∃ f fd,FnOk P w K mg base (CX1 P w) k f fd ps sp/\ax4 K C m f/\Binds K fd ps []
section
variable {X:Cx}{k:Nat}{C:Addr}{m:Str}{ps:List Str}{sp:Sp}{e o:Expr}{es:List Expr}{ta:TE}{t:TA}{p pos apos:Pos}{E:XK}
theorem Rr {pl:Sem Bool}(he:PE X o ta)(c:Cls X.K C)(F:Tr X.prog X.w X.K X.mg X.base k C m ps sp)(hr:Room k X.A)(hx:Gh (CX1 X.prog X.w) X E)(ha:PA X (e :: es) t)
  (hst:starEach (e :: es) X.env=(false,eval e X.env) :: starEach es X.env:=by ac_nf) (hpl:(backTo pos (starEach es X.env)).any (·.1)=false:=by ac_nf)
  (ht:eval (.Call (.Attribute o m apos) (e :: es) [] pos) X.env=(do
   let ov <- eval o X.env
   standAt apos.atName
   let (f,first) <- holding [ov] (getMethod ov m pl)
   callWith pos f first (backTo pos (starEach (e :: es) X.env)) (backToKw pos (keywordEach [] X.env))):=by ac_nf) :
  PE X (.Call (.Attribute o m apos) (e :: es) [] pos) (Wt C m sp [] E ta t):=by
 obtain⟨f,fd,h1,h2,h3⟩:=F;exact a52 (pl:=pl) he c h2 h1 hr h3 .nil hx ha hst hpl ht
theorem Xs {pl:Sem Bool}(he:PE X o ta)(c:Cls X.K C)(F:Tr X.prog X.w X.K X.mg X.base k C m ps sp)(hr:Room k X.A)(hx:Gh (CX1 X.prog X.w) X E)
  (ht:eval (.Call (.Attribute o m apos) [] [] pos) X.env=(do
   let ov <- eval o X.env
   standAt apos.atName
   let (f,first) <- holding [ov] (getMethod ov m pl)
   callWith pos f first (backTo pos (starEach [] X.env)) (backToKw pos (keywordEach [] X.env))):=by ac_nf) :
  PE X (.Call (.Attribute o m apos) [] [] pos) (Wt C m sp [] E ta ar4):=by
 obtain⟨f,fd,h1,h2,h3⟩:=F;exact W0 (pl:=pl) he c h2 h1 hr h3 .nil hx ht
theorem Jr {pl:Sem Bool}(he:PE X o ta)(c:Cls X.K C)(F:Mtd X.prog X.w X.K X.mg X.base k C m ps sp)(hr:Room k X.A)
  (ht:eval (.Call (.Attribute o m apos) [] [] pos) X.env=(do
   let ov <- eval o X.env
   standAt apos.atName
   let (f,first) <- holding [ov] (getMethod ov m pl)
   callWith pos f first (backTo pos (starEach [] X.env)) (backToKw pos (keywordEach [] X.env))):=by ac_nf) :
  PE X (.Call (.Attribute o m apos) [] [] pos) (Wt C m sp [] E0 ta ar4):=by
 obtain⟨f,fd,h1,h2,h3⟩:=F;exact W0 (pl:=pl) he c h2 h1 hr h3 .nil aa7 ht
end
section
variable {σ:St}{H:Hp}{Q:VK}{C:Addr}{m:Str}{sp:Sp}{ta:TE}{t:TA}{E:XK}
def aQ4 (m:Str)(C:Addr)(sp:Sp)(E:XK)(t:TA)(σ:St):V->Hp->VK->Prop:=λx H Q=>∃ a dx fs,x = .ref a/\H a=some (.ins C dx fs)/\fs.lookup m=none/\t σ H λvs H2=>sp (x :: (vs++[])) H2 Q E
theorem i_tMeth (k:ta σ H λx H1=>aQ4 m C sp E t σ x H1 Q):Wt C m sp [] E ta t σ H Q:=k
theorem K2 {a dx:Addr} {fs:List (Str×V)} (h:H a=some (.ins C dx fs)) (l:fs.lookup m=none) (k:t σ H λvs H2=>sp (.ref a :: (vs++[])) H2 Q E):aQ4 m C sp E t σ (.ref a) H Q:=⟨a,dx,fs,rfl,h,l,k⟩
end
theorem Mp:∀ {cs:List String} {us:List Value},Vals (cs.map V.ty) us->us=cs.map Value.type
 | [], us,r=>by cases us with | nil=>rfl | cons _ _=>cases r
 |c :: cs,us,r=>by
   cases us with
   |nil=>cases r
   |cons u us=>
     cases r with
     |cons r1 r2=>rw[A0H,Mp r2,show u=Value.type c from r1]
def aS1 (K:W.Frag):List V->Hp->VK->Prop:=λxs H Q=>∃(a:Addr) (ys:List V) (p:Addr) (cs:List String) (b:Bool),xs=[.ref a,.ref p]/\SqT K H a ys/\H p=some (.tup (cs.map V.ty))/\W.kitAny K (.type "tuple") (cs.map Value.type)=some b/\Q (.bl b) H
theorem call_isU {X:Cx}:CallR X (.builtin "isinstance") (aS1 X.K):=by
 intro pins s σ H xs us Q I r h;obtain⟨a,ys,p,cs,b,rfl,ty,hp,e,q⟩:=h;obtain⟨u,w',rfl,r1,r2⟩:=Rl r
 cases r1;cases r2;obtain⟨_,its,ri,ob,g1,g2,⟨n,g3⟩,g4⟩:=(show ObjOk X.prog X.w H s.heap p (.tup (cs.map V.ty)) from I.hok p _ hp);obtain rfl:=Mp ri;obtain⟨oc,odd,oda,osl⟩:=ob;dsimp only at g2 g3 g4;subst g2 g3 g4;obtain⟨its2,_,pp,_⟩:=I.tuple ty;obtain⟨o,h1,h2,_⟩:=pp;exact A2G A5B I.kIn ⟨o,h1,h2⟩ g1 e (λz=>nomatch z) λtk=>⟨.bl _,H,I.tok _,rfl,q⟩
structure RoomH (k:Nat)(A:Around):Prop where
 dp:A.depth+3*k+5<recursionLimit
 un:A.units+16*k+200<cLine
 gd:A.guards=some []
theorem Room.h {k:Nat}{A:Around}(r:Room k A)(x:Option Value):RoomH k (A.mark x):=⟨r.dp,r.un,r.gd⟩
theorem RoomH.deeper {k:Nat}{A:Around}(r:RoomH (k+1) A)(env:Env):RoomH k (A.deeper env):=
 ⟨by have:=r.dp;show A.depth+1+3*k+5<_;omega,by have:=r.un;show A.units+3+16*k+200<_;omega,r.gd⟩
theorem aK3 {A:Around}{k:Nat}(hr:RoomH k A):QA A:=⟨by have:=hr.un;omega,hr.gd⟩
theorem aG6 {A:Around}{k:Nat}(hr:RoomH k A):A.units+1<cLine:=by have:=hr.un;omega
structure a94 (P:Program)(w:World)(K:W.Frag)(mg:Str->Option Value)(base:Heap)(k:Nat)(f:Addr)(fd:FuncData)(ps:List Str)(sp:Sp):Prop where
 len:∀ vs H Q E,sp vs H Q E->vs.length=ps.length
 run:∀(A:Around) (outer:List Env) (s:Shared) (H:Hp) (args:Args) (us:List Value) (vs:List V) (Q:VK) (E:XK),RoomH k A->Env0 P w K mg base A outer s H->BindsTo s fd args (ps.zip us)->Vals vs us->sp vs H Q E ->
  codeAny (model P w) A (.call (.ref f) args) (CR CX0 outer P w H s Q E) s
abbrev aa0 (P:Program)(w:World)(K:W.Frag)(mg:Str->Option Value)(base:Heap)(N:List Str)(qual:Str)(scope:Scope)(f:Addr)(cd:Value)(A:Around)(outer:List Env)(s:Shared)(H:Hp)(E:XK):Cx:=
 {Ul CX0 P w K mg base N qual scope f cd A outer s H E with calm:=false}
section
variable {P:Program}{w:World}{K:W.Frag}{mg:Str->Option Value}{base:Heap}
theorem az0 {k:Nat}{f:Addr}{name qual:Str}{params:Arguments}{body:List Stmt}{scope:Scope}{dV kV doc pm cdv ct oc:Value}{an od:Option Addr}
  {osl:Array (Option Value)} {N ps:List Str} {sp:Sp} (lk:K.lookup f=some ⟨oc,od,.func (W.fnOf name qual params body scope dV kV doc pm an cdv ct),osl⟩) (hcd:W.codeIn K cdv qual=true) (S:Ag N ps scope)
  (len:∀ vs H Q E,sp vs H Q E->vs.length=ps.length)
  (hbody:∀(A:Around) (outer:List Env) (s:Shared) (H:Hp) (vs:List V) (Q:VK) (E:XK),RoomH k (A.deeper (envOfC qual scope s.heap.objs.size f cdv))->sp vs H Q E ->
   ∃ t,PSs (aa0 P w K mg base N qual scope f cdv A outer s H E) body t/\t {nx:=λ_ H'=>Q .non H',rt:=Q} (start N vs) H) :
  a94 P w K mg base (k+1) f (W.fnOf name qual params body scope dV kV doc pm an cdv ct) ps sp:=by
 refine⟨len,λA outer s H args us vs Q E hr e0 hb r hsp=>?_⟩;have hl:=len _ _ _ _ hsp;have KX:K.In s.heap:=e0.mod.kin.keeps λb o e=>(e0.bs b o e).1;have lim:s.heap.NoLimit:=e0.mod.nolimit.keeps λb o e=>(e0.bs b o e).1
 have hkind:∀ y∈ps.zip us,scope.names.lookup y.1=some .local\/(scope.names.lookup y.1=some .cell/\((cellsFrom (s.heap.objs.size+1) scope.names []).lookup y.1).isSome=true):=λ⟨n,v⟩ hy=>by
  rcases S.par n (A35 hy).1 with q|q
  . exact .inl q
  exact .inr ⟨q,A4I _ _ _ (.inl q)⟩
 refine codeAny_call_function (by have:=hr.dp;omega) (KX _ _ lk) rfl S.co S.gen rfl (W.codeRec_of KX hcd) (hb _ _ _ _ ?_);refine wpAny_newFunctionEnv_cells S.kind hkind λenv he s1 x=>?_;subst he;refine⟨lim.keeps x.toInCall.keep,codeAny_func ?_⟩;obtain⟨t,ht,hq⟩:=hbody A outer s H vs Q E (hr.deeper _) hsp;have I0:Inv (Ul CX0 P w K mg base N qual scope f cdv {A with handled:=none} outer s H E) [] (start N vs) H s1:=Rq S rfl ⟨e0.frames,e0.mod,e0.bs,e0.bsz,e0.funs,e0.frf,e0.hok,e0.bare⟩ hl r x
 have I:Inv (aa0 P w K mg base N qual scope f cdv A outer s H E) [] (start N vs) H s1:=
  ⟨⟨I0.ok.mod,I0.ok.kind,I0.ok.glob,I0.ok.blt,I0.ok.above,I0.ok.inj,I0.ok.has,I0.ok.cab,λz=>Bool.noConfusion z,I0.ok.frames,I0.ok.stk,I0.ok.exf,I0.ok.bs,I0.ok.bsz,I0.ok.noex,I0.ok.exfs,I0.ok.funs,I0.ok.frf⟩,I0.os,I0.bare,I0.base,I0.loc,I0.cell,I0.free,I0.freeC,I0.pin,I0.hok,I0.len⟩
 refine A1X (ht [] s1 (start N vs) H _ I hq) (λfl s' hs=>?_) λe s' hs=>hs
 have fin:∀ {σ':St} {H':Hp} {v:V} {u:Value},Inv (aa0 P w K mg base N qual scope f cdv A outer s H E) [] σ' H' s'->RelV v u->Q v H'->CE outer P w H s Q u s':=
  fun {σ' H' v u} J rv q=>⟨v,H',J.os,J.bare,J.base,J.hok,rv,q⟩
 cases fl with
 |ret u=>obtain⟨v,σ',H',J,rv,q⟩:=hs;exact fin J rv q
 |next=>obtain⟨σ',H',J,q⟩:=hs;exact fin (v:=V.non) (u:=Value.none) J rfl q
 |brk=>obtain⟨_,_,_,q⟩:=hs;exact False.elim q
 |cont=>obtain⟨_,_,_,q⟩:=hs;exact False.elim q
theorem Fun.okH {x qual:Str}{st:Stmt}{f:Addr}{fd:FuncData}{N ps:List Str}{k:Nat}{sp:Sp}(F:Fun K x qual st f fd)(S:Ag N ps (A4 st))(len:∀ vs H Q E,sp vs H Q E->vs.length=ps.length)
  (hbody:∀(cdv:Value) (A:Around) (outer:List Env) (s:Shared) (H:Hp) (vs:List V) (Q:VK) (E:XK),RoomH k (A.deeper (envOfC qual (A4 st) s.heap.objs.size f cdv))->sp vs H Q E ->
   ∃ t,PSs (aa0 P w K mg base N qual (A4 st) f cdv A outer s H E) (Aa st) t/\t {nx:=λ_ H'=>Q .non H',rt:=Q} (start N vs) H):a94 P w K mg base (k+1) f fd ps sp:=by
 obtain⟨oc,od,kV,doc,pm,an,cdv,ct,osl,rfl,lk,hcd⟩:=F.ex;exact az0 lk hcd S len λA outer s H vs Q E hr hsp=>hbody cdv A outer s H vs Q E hr hsp
def aM2 (P:Program)(w:World)(K:W.Frag)(mg:Str->Option Value)(base:Heap)(k:Nat)(x:Str)(ps:List Str)(sp:Sp):Prop:=
 ∃ f fd,a94 P w K mg base k f fd ps sp/\mg x=some (.ref f)/\W.keepIn K (.ref f)=true/\Binds K fd ps []
end
section
variable {X:Cx}{k:Nat}{x:Str}{ps:List Str}{sp:Sp}{e:Expr}{es:List Expr}{t:TA}{p pos:Pos}
theorem ay3 (F:aM2 X.prog X.w X.K X.mg X.base k x ps sp)(hr:RoomH k X.A)(hg:Gl X x)(ha:PA X (e :: es) t)(hdb:(x==("__debug__":Str))=false:=by decide)
  (he:starEach (e :: es) X.env=(false,eval e X.env) :: starEach es X.env:=by ac_nf) (hpl:(backTo pos (starEach es X.env)).any (·.1)=false:=by ac_nf):PE X (.Call (.Name x p) (e :: es) [] pos) (a81 sp [] E0 t):=by
 obtain⟨f,fd,G,h2,h3,h4⟩:=F;intro pins s σ H Q I h;refine A1H (Jv I hg h2 ?_ hdb);refine A2O (h₀:=X.base) I.ok.mod.kin h3 (thn (ha pos pins s σ H _ I h) λus s1 ⟨vs,H1,I1,r,q⟩=>⟨I1.kIn,?_⟩) he hpl;have q:sp (vs++[]) H1 Q E0:=q;rw[A22] at q;have hl:us.length=ps.length:=by rw[<- r.length];exact G.len _ _ _ _ q
 have hb:=h4 s1 us I1.kIn (by rw[A22];exact hl);rw [A22] at hb;refine A3I (A34 (G.run X.A X.stack s1 H1 ⟨us,[]⟩ us vs Q E0 hr I1.env0 hb r q) λr s' hq=>?_)
 cases r with
 |error e=>exact hq.elim
 |ok fl=>
   cases fl with
   |ret u=>exact I1.after hq
   |next=>exact False.elim hq
   |brk=>exact False.elim hq
   |cont=>exact False.elim hq
end
section
variable {X:Cx}
end
def az3 (K:W.Frag):List V->Hp->VK->Prop:=λxs H Q=>∃(a:Addr) (ys:List V) (p:Addr) (cs:List String) (b:Bool),xs=[.ref a,.ref p]/\SqL K H a ys/\H p=some (.tup (cs.map V.ty))/\W.kitAny K (.type "list") (cs.map Value.type)=some b/\Q (.bl b) H
theorem Yo {X:Cx}:CallR X (.builtin "isinstance") (az3 X.K):=by
 intro pins s σ H xs us Q I r h;obtain⟨a,ys,p,cs,b,rfl,ty,hp,e,q⟩:=h;obtain⟨u,w',rfl,r1,r2⟩:=Rl r
 cases r1;cases r2;obtain⟨_,its,ri,ob,g1,g2,⟨n,g3⟩,g4⟩:=(show ObjOk X.prog X.w H s.heap p (.tup (cs.map V.ty)) from I.hok p _ hp);obtain rfl:=Mp ri;obtain⟨oc,odd,oda,osl⟩:=ob;dsimp only at g2 g3 g4;subst g2 g3 g4;obtain⟨its2,_,pp,_⟩:=I.list ty;obtain⟨o,_,h1,h2,_⟩:=pp;exact A2G A45 I.kIn ⟨o,h1,h2⟩ g1 e (λz=>nomatch z) λtk=>⟨.bl _,H,I.tok _,rfl,q⟩
def aB0 (K:W.Frag):List V->Hp->VK->Prop:=λxs H Q=>aS1 K xs H Q\/az3 K xs H Q
theorem aA8 {K:W.Frag}{H:Hp}{Q:VK}{a p:Addr}{ys:List V}{cs:List String}{b:Bool}(h:SqL K H a ys\/SqT K H a ys)(hp:H p=some (.tup (cs.map V.ty)))(e:W.kitAny K (.type "tuple") (cs.map Value.type)=some b)(e':W.kitAny K (.type "list") (cs.map Value.type)=some b)(k:Q (.bl b) H):aB0 K [.ref a,.ref p] H Q:=by
 rcases h with h|h
 . exact .inr ⟨a,ys,p,cs,b,rfl,h,hp,e',k⟩
 exact .inl ⟨a,ys,p,cs,b,rfl,h,hp,e,k⟩
section
variable {α:Type}[DecidableEq α]{b:α->α->Bool}
def Grow (b:α->α->Bool)(R:List α->Prop):List (List α)->List (List α)->Prop
 |_,[]=>True
 |T,M :: B=>(∀ x∈frF b M,Ai M x∈T)/\(R M\/∃ N∈B,∃ x∈frF b N,M=Ai N x)/\Grow b R (T++[M]) B
theorem Grow.mono {R R':List α->Prop}(h:∀ M,R M->R' M):∀ {T A:List (List α)},Grow b R T A->Grow b R' T A
 |_,[],_=>trivial
 |T,M :: B,⟨h1,h2,h3⟩=>⟨h1,h2.imp (h M) id,Grow.mono h h3⟩
theorem Grow.app {R:List α->Prop}:∀ {T A B:List (List α)},Grow b R T A->Grow b R (T++A) B->Grow b R T (A++B)
 |T,[],B,_,h=>by simpa using h
 |T,M :: A,B,⟨h1,h2,h3⟩,h=>⟨h1,h2.imp id (λ⟨N,hN,r⟩=>⟨N,List.mem_append_left _ hN,r⟩),Grow.app h3 (by simpa using h)⟩
theorem Grow.close {L:List α}:∀ {T A:List (List α)},Grow b (λM=>∃ x∈frF b L,M=Ai L x) T A->(∀ x∈frF b L,Ai L x∈T++A)->Grow b (· = L) T (A++[L])
 |T,[],_,h=>⟨by simpa using h,.inl rfl,trivial⟩
 |T,M :: A,⟨h1,h2,h3⟩,h=>⟨h1,.inr (by
   rcases h2 with ⟨x,hx,e⟩|⟨N,hN,r⟩
   . exact⟨L,by simp,x,hx,e⟩
   exact⟨N,List.mem_append_left _ hN,r⟩),Grow.close h3 (by simpa using h)⟩
theorem Grow.at {R:List α->Prop}:∀ {T A D:List (List α)} {M:List α},Grow b R T (A++M :: D)->(∀ x∈frF b M,Ai M x∈T++A)/\(R M\/∃ N∈D,∃ x∈frF b N,M=Ai N x)
 |T,[],D,M,⟨h1,h2,h3⟩=>⟨by simpa using h1,h2⟩
 |T,N :: A,D,M,⟨h1,h2,h3⟩=>by have:=Grow.at (T:=T++[N]) (A:=A) h3;simpa using this
end
def ind (L:List Str):List Str->Nat:=λM=>if M=L then 1 else 0
theorem Qr {ns:List Str}{p q:Str->Bool}(h:ns.filter p=ns.filter q):B4 ns p=B4 ns q:=Ll λx hx=>by
 have h1:x∈ns.filter p↔x∈ns.filter q:=by rw[h]
 rw[A15,A15] at h1
 cases hp:p x<;>cases hq:q x<;>simp_all
theorem Nr {ns:List Str}{p q:Str->Bool}(h:B4 ns p=B4 ns q):ns.filter p=ns.filter q:=A2E λx hx=>L9 h x hx
theorem X6 {ns:List Str}{F G:List Str->Nat}{ct:List ((Str->Bool)×Nat)}(h:∀ e∈ct,F (ns.filter e.1)=G (ns.filter e.1)):Hk ns F ct=Hk ns G ct:=by unfold Hk;congr 1;exact A12 λe he=>by rw[h e he]
def Hc (ns:List Str)(ct:List ((Str->Bool)×Nat)):List (List Str):=ct.map λe=>ns.filter e.1
theorem com_keys {ns:List Str}{ct:List ((Str->Bool)×Nat)}{q:Str->Bool}:(Sum.inl ((B4 ns q:Nat):Int):Key)∈(Ip ns ct).map (·.1)↔ns.filter q∈Hc ns ct:=by
 unfold Ip Hc;rw[A1A,A0E,A0E];constructor
 . rintro⟨e,he,h⟩;refine⟨e,he,Nr ?_⟩;have:=A33 h;omega
 rintro ⟨e,he,h⟩;exact⟨e,he,by show(Sum.inl ((B4 ns e.1:Nat):Int):Key)=_;rw[Qr h]⟩
theorem Vs {ns:List Str}{L:List Str}:∀ {ct:List ((Str->Bool)×Nat)},L∉Hc ns ct->Hk ns (ind L) ct=0
 | [],_=>rfl
 |e :: r,h=>by have h:L∉(ns.filter e.1) :: Hc ns r:=h;rw[A0C,not_or] at h;rw[C9,Vs h.2];unfold ind;rw[A0J (λz=>h.1 z.symm)];rfl
theorem Ts {ns:List Str}{q:Str->Bool}:∀ {ct:List ((Str->Bool)×Nat)},Qz ns ct->ns.filter q∈Hc ns ct->Dj (Ip ns ct) (Sum.inl ((B4 ns q:Nat):Int):Key)=some (.int ((Hk ns (ind (ns.filter q)) ct:Nat):Int))
 | [],_,h=>by cases h
 |e :: r,hO,h=>by
   have hO':((Sum.inl ((B4 ns e.1:Nat):Int):Key) :: (Ip ns r).map (·.1)).Nodup:=hO;obtain⟨h1,h2⟩:=A0P.mp hO';have hk:ns.filter e.1∉Hc ns r:=λz=>h1 (com_keys.mpr z);have h:ns.filter q∈(ns.filter e.1) :: Hc ns r:=h
   by_cases c:ns.filter e.1=ns.filter q
   . show Dj ((Sum.inl ((B4 ns e.1:Nat):Int),V.int ((e.2:Nat):Int)) :: Ip ns r) _=_;rw[Ba (by rw[Qr c]),C9,Vs (c ▸ hk)];unfold ind;rw[A0R c,Nat.mul_one,Nat.add_zero]
   rcases A0C.mp h with h|h
   . exact absurd h.symm c
   have hne:¬ (Sum.inl ((B4 ns e.1:Nat):Int):Key)=Sum.inl ((B4 ns q:Nat):Int):=λz=>c (Nr (by have:=A33 z;omega));show Dj ((Sum.inl ((B4 ns e.1:Nat):Int),V.int ((e.2:Nat):Int)) :: Ip ns r) _=_;rw[B6 hne,Ts h2 h,C9];unfold ind;rw[A0J c,Nat.mul_zero,Nat.zero_add]
theorem a73 {ns:List Str}{F F':List Str->Nat}{L:List Str}(h:∀ M,M≠L->F M=F' M)(ct:List ((Str->Bool)×Nat)):Hk ns F ct+Hk ns (ind L) ct*F' L=Hk ns F' ct+Hk ns (ind L) ct*F L:=by
 induction ct with
 |nil=>simp[Hk]
 |cons e r ih=>
   rw[C9,C9,C9,A3Y,A3Y]
   by_cases c:ns.filter e.1=L
   . rw[c];unfold ind at ih ⊢;rw[A0R rfl,Nat.mul_one];omega
   rw[h _ c];unfold ind at ih ⊢;rw[A0J c,Nat.mul_zero,Nat.zero_mul,Nat.zero_mul];omega
theorem K8 {β:Type}(f g:β->Nat):∀ l:List β,(l.map λx=>f x+g x).sum=(l.map f).sum+(l.map g).sum
 | []=>rfl
 |x :: r=>by rw[A0H,A1I,K8 f g r,A0H,A1I,A0H,A1I];omega
theorem Zb {β:Type}(f:β->Nat)(c:Nat):∀ l:List β,(l.map λx=>c*f x).sum=c*(l.map f).sum
 | []=>rfl
 |x :: r=>by rw[A0H,A1I,Zb f c r,A0H,A1I,Nat.mul_add]
theorem Yq {L:List Str}{F:List Str->Nat}:∀ {all:List (List Str)},all.Nodup->L∈all->(all.map λM=>ind M L*F M).sum=F L
 | [],_,h=>by cases h
 |M :: r,hn,h=>by
   obtain⟨h1,h2⟩:=A0P.mp hn;rw[A0H,A1I]
   by_cases c:L=M
   . subst c
     have:(r.map λM=>ind M L*F M).sum=0:=by
      rw[show(r.map λM=>ind M L*F M)=r.map λ_=>0 from A12 λM hM=>by unfold ind;rw[A0J (λz:L=M=>h1 (z ▸ hM)),Nat.zero_mul]]
      clear h h1 h2 hn
      induction r with
      |nil=>rfl
      |cons x r ih=>simpa using ih
     rw[this];unfold ind;rw[A0R rfl];omega
   rcases A0C.mp h with h|h
   . exact absurd h c
   rw[Yq h2 h];unfold ind;rw[A0J c];omega
theorem Ve {ns:List Str}{F:List Str->Nat}{all:List (List Str)}(hn:all.Nodup):∀ {ct:List ((Str->Bool)×Nat)},(∀ L∈Hc ns ct,L∈all)->(all.map λL=>Hk ns (ind L) ct*F L).sum=Hk ns F ct
 | [],h=>by
   show(all.map λL=>0*F L).sum=0;clear hn h
   induction all with
   |nil=>rfl
   |cons x r ih=>rw[A0H,A1I,ih,Nat.zero_mul]
 |e :: r,h=>by have h1:ns.filter e.1∈all:=h _ (A0M ..);rw[C9,<- Ve hn (ct:=r) (λL hL=>h L (A0B _ hL)),<- Yq hn h1 (F:=F)];rw[<- Zb,<- K8];congr 1;refine A12 λL _=>?_;rw[C9,A3Y,Nat.mul_assoc]
def K0 (D:List (List Str))(W loc:List Str->Nat):List Str->Nat:=λL=>if L∈D then loc L else W L
def Rec (b:Str->Str->Bool)(W loc:List Str->Nat):Prop:=∀ L,L.Nodup->W L=loc L+((frF b L).map λx=>W (Ai L x)).sum
theorem tele {b:Str->Str->Bool}{ns:List Str}{W loc:List Str->Nat}{D:List (List Str)}{M:List Str}{ct ct':List ((Str->Bool)×Nat)}{w:Nat}(hR:Rec b W loc)(hM:M.Nodup)(hD:M∉D)(hn:∀ x∈frF b M,Ai M x∉M :: D)(h0:Hk ns (K0 D W loc) ct=w)
  (h:∀ F,Hk ns F ct'=Hk ns F ct+Hk ns (ind M) ct*((frF b M).map λx=>F (Ai M x)).sum):Hk ns (K0 (M :: D) W loc) ct'=w:=by
 rw[h]
 have h1:((frF b M).map λx=>K0 (M :: D) W loc (Ai M x))=(frF b M).map λx=>W (Ai M x):=A12 λx hx=>by unfold K0;rw[A0J (hn x hx)]
 rw[h1]
 have h2:=a73 (ns:=ns) (F:=K0 D W loc) (F':=K0 (M :: D) W loc) (L:=M) (λN hN=>by
  unfold K0
  by_cases c:N∈D
  . rw[A0R c,A0R (A0B _ c)]
  rw[A0J c,A0J (λz=>by rcases A0C.mp z with z|z;exact hN z;exact c z)]) ct
 have h3:K0 (M :: D) W loc M=loc M:=by unfold K0;rw[if_pos (List.mem_cons_self ..)]
 have h4:K0 D W loc M=W M:=by unfold K0;rw[if_neg hD]
 rw[h3,h4,hR M hM,Nat.mul_add,h0] at h2;omega
theorem Ud {a x:Str}{r:List Str}(h:a≠x):(a :: r).idxOf x=r.idxOf x+1:=by
 rw[List.idxOf_cons];have:(a==x)=false:=by simpa using h
 rw[this];rfl
def ahN (b:Str->Str->Bool)(x y:Str)(L:List Str):Nat:=if x∈L/\y∈L then((ext b L.length L).filter λr=>decide (r.idxOf x<r.idxOf y)).length else 0
def ah9 (b:Str->Str->Bool)(x y:Str)(L:List Str):Nat:=if x∈frF b L/\y∈Ai L x then cnt b (Ai L x) else 0
theorem Sc {α β:Type}(f:α->List β):∀ l:List α,(l.flatMap f).length=(l.map λx=>(f x).length).sum
 | []=>rfl
 |x :: r=>by rw[A3J,A0T,Sc f r,A0H,A1I]
theorem Vu {α β:Type}(f:α->List β)(p:β->Bool):∀ l:List α,(l.flatMap f).filter p=l.flatMap λx=>(f x).filter p
 | []=>rfl
 |x :: r=>by rw[A3J,A39,Vu f p r,A3J]
theorem Va {α:Type}{p:α->Bool}{l:List α}(h:∀ x∈l,p x=true):(l.filter p).length=l.length:=by rw[A55.mpr h]
theorem Rv {α:Type}{p:α->Bool}{l:List α}(h:∀ x∈l,p x=false):(l.filter p).length=0:=by rw[List.filter_eq_nil_iff.mpr λx hx=>by rw[h x hx];decide];rfl
theorem ap1 {b:Str->Str->Bool}{x y:Str}{L:List Str}(hn:L.Nodup)(c:Nat):((frF b L).map λz=>if z=x then c else 0).sum=if x∈frF b L then c else 0:=by
 have hn':(frF b L).Nodup:=A1Y A1T hn;generalize frF b L=l at hn' ⊢
 induction l with
 |nil=>rfl
 |cons z r ih=>
   obtain⟨h1,h2⟩:=A0P.mp hn';rw[A0H,A1I,ih h2]
   by_cases c1:z=x
   . subst c1;rw[A0R rfl,A0J h1,A0R (A0M ..)];rfl
   rw[A0J c1,Nat.zero_add]
   by_cases c2:x∈r
   . rw[A0R c2,A0R (A0B _ c2)]
   rw[A0J c2,A0J (λz=>by rcases A0C.mp z with z|z;exact c1 z.symm;exact c2 z)]
theorem aB9 {b:Str->Str->Bool}{x y:Str}(hxy:x≠y):Rec b (ahN b x y) (ah9 b x y):=λL hn=>by
 by_cases hm:x∈L/\y∈L
 . have hpos:L≠[]:=λz=>by rw[z] at hm;cases hm.1
   obtain⟨n,hl⟩:∃ n,L.length=n+1:=⟨L.length-1,by have:=List.length_pos_iff.mpr hpos;omega⟩
   have h1:ahN b x y L=((frF b L).map λz=>(if z=x then cnt b (Ai L x) else 0)+ahN b x y (Ai L z)).sum:=by
    unfold ahN;rw[A0R hm,hl];show(((frF b L).flatMap λz=>(ext b n (Ai L z)).map (z :: ·)).filter _).length=_;rw[Vu,Sc];congr 1;refine A12 λz hz=>?_;have hzL:=(mem_frF.mp hz).1;have hlen:(Ai L z).length=n:=by have:=Cj hn hzL;omega
    have hper:∀ r∈ext b n (Ai L z),r.Perm (Ai L z):=λr hr=>((Jc b n (Ai L z) r (Cs hn z) hlen).mp hr).1;rw[List.filter_map,A02]
    by_cases c1:z=x
    . subst c1;rw[A0R rfl,A0J (λq=>(mem_lessF.mp q.1).2 rfl),Nat.add_zero,Va]
      . unfold cnt;rw[hlen]
      intro r hr;have hy:y∈r:=(hper r hr).mem_iff.mpr (mem_lessF.mpr ⟨hm.2,hxy.symm⟩);refine A0Z ?_;show(z :: r).idxOf z<(z :: r).idxOf y;rw[List.idxOf_cons_self,Ud hxy];omega
    rw[A0J c1,Nat.zero_add]
    by_cases c2:z=y
    . subst c2;rw[A0J (λq=>(mem_lessF.mp q.2).2 rfl),Rv];intro r hr;refine A0Q ?_;show ¬ (z :: r).idxOf x<(z :: r).idxOf z;rw[List.idxOf_cons_self];omega
    rw[A0R ⟨mem_lessF.mpr ⟨hm.1,λq=>c1 q.symm⟩,mem_lessF.mpr ⟨hm.2,λq=>c2 q.symm⟩⟩,hlen];congr 1;refine A2E λr hr=>?_;show decide ((z :: r).idxOf x<(z :: r).idxOf y)=_;rw[Ud c1,Ud c2]
    by_cases q:r.idxOf x<r.idxOf y
    . rw[A0Z q,A0Z nofun]
    rw[A0Q q,A0Q nofun]
   rw[h1,K8,ap1 (y:=y) hn];congr 1;unfold ah9
   by_cases c:x∈frF b L
   . rw[A0R c,A0R ⟨c,mem_lessF.mpr ⟨hm.2,hxy.symm⟩⟩]
   rw[A0J c,A0J (λq=>c q.1)]
 have h1:ahN b x y L=0:=by unfold ahN;rw[if_neg hm]
 have h2:ah9 b x y L=0:=by unfold ah9;rw[A0J (λq=>hm ⟨(mem_frF.mp q.1).1,(mem_lessF.mp q.2).1⟩)]
 have h3:((frF b L).map λz=>ahN b x y (Ai L z))=(frF b L).map λ_=>0:=A12 λz _=>by unfold ahN;rw[A0J (λq=>hm ⟨(mem_lessF.mp q.1).1,(mem_lessF.mp q.2).1⟩)]
 rw[h1,h2,h3];generalize frF b L=l
 induction l with
 |nil=>rfl
 |cons z r ih=>simpa using ih
def knK (ns:List Str)(ps:List (Str×Str))(qs:List (Str->Bool)):List (Key×V):=qs.map λq=>((Sum.inl ((B4 ns q:Nat):Int):Key),V.int ((cnt (Be ps) (ns.filter q):Nat):Int))
def Br (ns:List Str)(qs:List (Str->Bool)):List (List Str):=qs.map λq=>ns.filter q
theorem Ct (ns:List Str)(a b:List (Str->Bool)):Br ns (a++b)=Br ns a++Br ns b:=A16
theorem ai0 {ns:List Str}{ps:List (Str×Str)}{qs:List (Str->Bool)}{q:Str->Bool}{v:V}(h:Dj (knK ns ps qs) (Sum.inl ((B4 ns q:Nat):Int):Key)=some v):ns.filter q∈Br ns qs:=by obtain⟨e,he,h1⟩:=A0E.mp (Qw h);refine A0E.mpr ⟨e,he,Nr ?_⟩;have:=A33 (Prod.mk.inj h1).1;omega
theorem aq5 {ns:List Str}{ps:List (Str×Str)}{qs:List (Str->Bool)}{q:Str->Bool}(h:ns.filter q∉Br ns qs):Dj (knK ns ps qs) (Sum.inl ((B4 ns q:Nat):Int):Key)=none:=by
 cases e:Dj (knK ns ps qs) (Sum.inl ((B4 ns q:Nat):Int):Key) with
 |none=>rfl
 |some v=>exact absurd (ai0 e) h
theorem az9 {ns:List Str}{ps:List (Str×Str)}{qs:List (Str->Bool)}{q:Str->Bool}(h:ns.filter q∉Br ns qs):Fs (knK ns ps qs) (Sum.inl ((B4 ns q:Nat):Int)) (.int ((cnt (Be ps) (ns.filter q):Nat):Int))=knK ns ps (qs++[q]):=by rw[L6 _ (aq5 h)];unfold knK;rw[A16];rfl
theorem Zv (ns:List Str)(ps:List (Str×Str)):([(Sum.inl 0,V.int 1)]:List (Key×V))=knK ns ps [λ_=>false]:=by unfold knK;rw [List.map_cons,List.map_nil,binM_zero.mpr λ_ _=>rfl,List.filter_eq_nil_iff.mpr (by simp)];rfl
theorem Vd {ns:List Str}{ps:List (Str×Str)}:∀ {qs:List (Str->Bool)} {q:Str->Bool},ns.filter q∈Br ns qs->Dj (knK ns ps qs) (Sum.inl ((B4 ns q:Nat):Int):Key)=some (.int ((cnt (Be ps) (ns.filter q):Nat):Int))
 | [],_,h=>by cases h
 |e :: r,q,h=>by
   show Dj ((Sum.inl ((B4 ns e:Nat):Int),V.int ((cnt (Be ps) (ns.filter e):Nat):Int)) :: knK ns ps r) _=_
   by_cases c:ns.filter e=ns.filter q
   . rw[Ba (by rw[Qr c]),c]
   have hne:¬ (Sum.inl ((B4 ns e:Nat):Int):Key)=Sum.inl ((B4 ns q:Nat):Int):=λz=>c (Nr (by have:=A33 z;omega));rw[B6 hne];rcases A0C.mp (show ns.filter q∈ns.filter e :: Br ns r from h) with z|z
   . exact absurd z.symm c
   exact Vd z
theorem Knw.tt {ns:List Str}{ps:List (Str×Str)}{qs:List (Str->Bool)}(h:Knw ns ps (knK ns ps qs)):(Br ns qs).Nodup:=by have h1:=h.1;unfold knK at h1;rw[A1A] at h1;unfold Br;unfold List.Nodup at h1 ⊢;rw[List.pairwise_map] at h1 ⊢;exact h1.imp fun {a b} hab z=>hab (by show(Sum.inl ((B4 ns a:Nat):Int):Key)=Sum.inl ((B4 ns b:Nat):Int);rw[Qr z])
def Gr (ns:List Str)(ps:List (Str×Str))(qs qs':List (Str->Bool))(q:Str->Bool):Prop:=∃ new,qs'=qs++new/\Grow (Be ps) (· = ns.filter q) (Br ns qs) (Br ns new)/\(∀ M∈Br ns new,M.length<=(ns.filter q).length)/\ns.filter q∈Br ns qs'
def GrC (ns:List Str)(ps:List (Str×Str))(qs qs':List (Str->Bool))(L:List Str)(i:Nat):Prop:=∃ new,qs'=qs++new/\Grow (Be ps) (λM=>∃ x∈frF (Be ps) L,M=Ai L x) (Br ns qs) (Br ns new)/\(∀ M∈Br ns new,M.length<L.length)/\∀ x∈(frF (Be ps) L).take i,Ai L x∈Br ns qs'
theorem GrC.zero (ns:List Str)(ps:List (Str×Str))(qs:List (Str->Bool))(L:List Str):GrC ns ps qs qs L 0:=⟨[],by simp,trivial,λM hM=>(by cases hM),λx hx=>(by cases hx)⟩
theorem GrC.step {ns:List Str}{ps:List (Str×Str)}{qs qs2 qs3:List (Str->Bool)}{L:List Str}{i:Nat}{z:Str}{q:Str->Bool}(hL:L.Nodup)(h:GrC ns ps qs qs2 L i)(hz:(frF (Be ps) L)[i]? = some z)(hq:ns.filter q=Ai L z)(g:Gr ns ps qs2 qs3 q):GrC ns ps qs qs3 L (i+1):=by
 obtain⟨n1,rfl,h1,h2,h3⟩:=h;obtain⟨n2,rfl,g1,g2,g3⟩:=g;have hzf:=A04 hz;have hzl:=Cj hL (mem_frF.mp hzf).1;rw[hq] at g1 g2 g3;refine⟨n1++n2,by rw[A2V],?_,λM hM=>?_,λx hx=>?_⟩
 . rw[Ct];rw[Ct] at g1;exact h1.app (g1.mono λM hM=>⟨z,hzf,hM⟩)
 . rw[Ct] at hM;rcases A0G.mp hM with hM|hM
   . exact h2 M hM
   have:=g2 M hM;omega
 rw[A0S,hz] at hx;rcases A0G.mp hx with hx|hx
 . rw[Ct];exact A0X _ (h3 x hx)
 have:x=z:=by simpa using hx
 rw[this];exact g3
theorem GrC.no {ns:List Str}{ps:List (Str×Str)}{qs qs2:List (Str->Bool)}{q:Str->Bool}{i:Nat}(h:GrC ns ps qs qs2 (ns.filter q) i)(hno:ns.filter q∉Br ns qs):ns.filter q∉Br ns qs2:=by
 obtain⟨n1,rfl,h1,h2,h3⟩:=h;intro z;rw[Ct] at z;rcases A0G.mp z with z|z
 . exact hno z
 have:=h2 _ z;omega
theorem GrC.close {ns:List Str}{ps:List (Str×Str)}{qs qs2:List (Str->Bool)}{q:Str->Bool}(h:GrC ns ps qs qs2 (ns.filter q) (frF (Be ps) (ns.filter q)).length):Gr ns ps qs (qs2++[q]) q:=by
 obtain⟨n1,rfl,h1,h2,h3⟩:=h;rw[A11] at h3;refine⟨n1++[q],by rw[A2V],?_,λM hM=>?_,?_⟩
 . rw[Ct];exact h1.close λx hx=>by rw[<- Ct];exact h3 x hx
 . rw[Ct] at hM;rcases A0G.mp hM with hM|hM
   . exact A25 (h2 M hM)
   have:M=ns.filter q:=by simpa[Br] using hM
   rw[this];exact A07 _
 rw[Ct];exact List.mem_append_right _ (by simp[Br])
structure WaysB (K:W.Frag)(C:Addr)(H:Hp)(p dx:Addr)(nv:V)(bd ad kd:Addr)(ns:List Str)(ps:List (Str×Str)):Prop where
 ob:H p=some (.ins C dx [("names",nv),("bits",.ref bd),("ahead",.ref ad),("full",.int ((B4 ns (λ_=>true):Nat):Int)),("known",.ref kd)])
 nm:Is K H (nmD ns) nv
 bt:H bd=some (.dK (aw4 ns))
 ah:H ad=some (.dK (ahK ns ps))
theorem WaysAt.b {K:W.Frag}{C:Addr}{H:Hp}{p dx:Addr}{nv:V}{bd ad kd:Addr}{ns:List Str}{ps:List (Str×Str)}{kvs:List (Key×V)}(h:WaysAt K C H p dx nv bd ad kd ns ps kvs):WaysB K C H p dx nv bd ad kd ns ps:=⟨h.ob,h.nm,h.bt,h.ah⟩
theorem WaysB.of {K:W.Frag}{C:Addr}{H H':Hp}{p dx:Addr}{nv:V}{bd ad kd:Addr}{ns:List Str}{ps:List (Str×Str)}(h:WaysB K C H p dx nv bd ad kd ns ps)(f:Fz H H')(e:∀ b o,b=p\/b=bd\/b=ad->H b=some o->H' b=some o):WaysB K C H' p dx nv bd ad kd ns ps:=⟨e _ _ (.inl rfl) h.ob,h.nm.nm_fz f,e _ _ (.inr (.inl rfl)) h.bt,e _ _ (.inr (.inr rfl)) h.ah⟩
theorem WaysB.same {K:W.Frag}{C:Addr}{H H':Hp}{p dx:Addr}{nv:V}{bd ad kd:Addr}{ns:List Str}{ps:List (Str×Str)}(h:WaysB K C H p dx nv bd ad kd ns ps)(e:Same H H'):WaysB K C H' p dx nv bd ad kd ns ps:=h.of e.fz λb o _=>e b o
def aM0 (K:W.Frag)(a:Addr)(n:Nat):It:=
 ⟨λi H=>i<n/\∃ xs,SqL K H a xs/\xs.length=n,λi H v H'=>H'=H/\∀ xs,SqL K H a xs->xs[n-1-i]? = some v,λi H=>n<=i⟩
theorem Za {P:Program}{w:World}{K:W.Frag}{tg:Expr}(a it:Addr)(n:Nat)(hai:a≠it):a85 P w K tg (aM0 K a n) [it] it (λi h=>i<=n/\h.IsRevIter it a ((n:Int)-1-(i:Int))) where
 mem:=by simp
 obj:=λi h st b hb=>by
  have q:b=it:=by simpa using hb
  subst q;obtain⟨_,o,h2,h3,h4⟩:=st;exact⟨o,h2,λv z=>by rw[h4] at z;cases z⟩
 keep:=λi h h' st k=>⟨st.1,st.2.at λo q=>k it (by simp) o q⟩
 item:=by
  intro X hP hw hK hc i pins s σ H E I hf st hg;subst hP hw hK;obtain⟨hin,xs,hq,hxs⟩:=hg;obtain⟨its,rv,p,hz⟩:=I.list hq;have hl:=rv.length;have hn:=Og;obtain⟨f0,f1,f2,f3,f4,f5⟩:=hf it (by simp);have e:(n:Int)-1-(i:Int)=((n-1-i:Nat):Int):=by omega
  have hit:=st.2;rw[e] at hit;obtain⟨x,hx⟩:∃ x,xs[n-1-i]? = some x:=⟨xs[n-1-i]'nofun,A05 _⟩;obtain⟨u,hu,ru⟩:=rv.get hx;refine wpAny_pyNext_rev_item hit p.isList (x:=u) (by rw[A2T];exact hu) λh' hit' hs'=>?_;have I1:Inv X pins σ H {s with heap:=h'}:=I.turned (t':=s.toks) (λb o hb e=>hs'.extBut b o (by simpa using hb) e) f0 f1 f3 f4 f5
  obtain⟨o,q1,q2,q3⟩:=id hit';have e2:((n-1-i:Nat):Int)-1=(n:Int)-1-((i+1:Nat):Int):=by omega
  rw[e2] at hit';refine⟨u,rfl,Xa (s:={s with heap:=h'}) q1 q2 q3 (by decide +kernel) ⟨x,H,I1,ru,⟨rfl,λys hy=>by rw[I.list_inj hy hq];exact hx⟩,⟨hin,hit'⟩,λb hb=>(hf b hb).1⟩⟩
 done:=by intro X hP hw hK hc i pins s σ H E I hf st hg;subst hP hw hK;obtain⟨f0,f1,f2,f3,f4,f5⟩:=hf it (by simp);have hg':n<=i:=hg;have hi:i=n:=A4S st.1 hg';subst hi;have hit:=st.2;rw[show(i:Int)-1-(i:Int) = -1 by omega] at hit;refine wpAny_pyNext_rev_end (by simpa using I.ok.hd hc) hit λh' hk=>⟨rfl,I.turned (t':=s.toks) (λb o hb e=>hk b o (by simpa using hb) e) f0 f1 f3 f4 f5⟩
 self:=by intro A i s Q E st hQ;exact wpAny_pyIter_revIter st.2 hQ
section
variable {X:Cx}{K:W.Frag}
def ax0 (K:W.Frag)(vs:List V)(H:Hp)(R:It->Hp->Prop):Prop:=∃ a xs,vs=[.ref a]/\SqL K H a xs/\R (aM0 K a xs.length) H
def aE6 (K:W.Frag)(ta:TA):TI:=fun σ H R=>ta σ H λvs H1=>ax0 K vs H1 R
theorem am9 {e:Expr}{ta:TA}{p pos:Pos}{tg:Expr}(hg:Gl X "reversed")(hm:X.mg "reversed" = none)(ha:PA X [e] ta)(hK:X.K=K:=by ac_nf)(hs:starEach [e] X.env=[(false,eval e X.env)]:=by ac_nf) :
  PI X tg (.Call (.Name "reversed" p) [e] [] pos) (aE6 K ta):=by
 subst hK;intro pins s σ H R I h;refine Call_ (J9 I hg hm boot_reversed (A1K (thn (ha pos pins s σ H _ I h) λus s1 ⟨vs,H1,I1,r1,q1⟩=>?_) hs rfl));obtain⟨a,xs,rfl,hq,q⟩:=q1;obtain⟨u,rfl,ru⟩:=Vals.one r1
 cases ru;obtain⟨its,rv,ht,hz⟩:=I1.list hq;have hal:a<s1.heap.objs.size:=let ⟨_,q,_⟩:=ht.isList;A06 q;have hl:=rv.length;have hn:=Og;refine call_reversed_list ht.isList ?_;have hit:(s1.heap.push (revObj a ((its.toArray.size:Int)-1))).IsRevIter s1.heap.objs.size a ((xs.length:Int)-1-((0:Nat):Int)):=⟨_,Heap.get?_push_size _ rfl,rfl,by rw[List.size_toArray,<- hl];simp[revObj]⟩;refine wpAny_pyIter_revIter hit ?_;refine⟨s1.heap.objs.size,[s1.heap.objs.size],_,_,H1,rfl,I1.kept (t':=s1.toks) (λb o e=>A01 _ e),Za a s1.heap.objs.size xs.length (A0K hal),⟨A3G _,hit⟩,λb hb=>?_,q⟩;have e:b=s1.heap.objs.size:=by simpa using hb
 subst e;exact I1.fpOk (A07 _) (I1.hok.fresh (A07 _))
end
section
variable {K:W.Frag}{σ:St}{H:Hp}
theorem an9 {ts:TA}{R:It->Hp->Prop}(k:ts σ H λvs H1=>ax0 K vs H1 R):aE6 K ts σ H R:=k
theorem a05 {a:Addr}{xs:List V}:Gq (aM0 K a xs.length) xs.reverse λH=>SqL K H a xs:=by intro i H g;rw[A3V];refine⟨λh=>⟨h,xs,g,rfl⟩,λh=>h,λx H' hi h=>?_⟩;obtain⟨e,h2⟩:=h;refine⟨e,?_⟩;rw[List.getElem?_reverse hi];exact h2 xs g
theorem aE9 {a:Addr}{xs:List V}{R:It->Hp->Prop}(h:SqL K H a xs)(k:R (aM0 K a xs.length) H):ax0 K [.ref a] H R:=⟨a,xs,rfl,h,k⟩
end
theorem Y1 {α:Type}{xs:List α}{i:Nat}{M:α}(h:xs.reverse[i]? = some M):∃ A,xs=A++M :: (xs.reverse.take i).reverse:=by
 obtain⟨hi,hM⟩:=A00.mp h;refine⟨(xs.reverse.drop (i+1)).reverse,?_⟩
 have h1:xs.reverse=xs.reverse.take i++M :: xs.reverse.drop (i+1):=by conv=>lhs;rw[<- List.take_append_drop i xs.reverse,List.drop_eq_getElem_cons hi,hM]
 have h2:=congrArg List.reverse h1;rw[A31,List.reverse_append,List.reverse_cons,A2V] at h2;exact h2
theorem aa6 {α:Type}{xs:List α}{i:Nat}{M:α}(h:xs[i]? = some M):(xs.take (i+1)).reverse=M :: (xs.take i).reverse:=by rw[A0S,h];simp
theorem as1 (b:Str->Str->Bool):frF b ([]:List Str)=[]:=rfl
theorem aK4 {ns:List Str}{ps:List (Str×Str)}{qs:List (Str->Bool)}{A D:List (List Str)}{M:List Str}(h:Gr ns ps [λ_=>false] qs (λ_=>true))(e:Br ns qs=A++M :: D) :
  frF (Be ps) M=[]\/((∀ x∈frF (Be ps) M,Ai M x∈A)/\(M=ns\/∃ N∈D,∃ x∈frF (Be ps) N,M=Ai N x)):=by
 obtain⟨new,rfl,h1,h2,h3⟩:=h;have h0:Br ns [λ_=>false]=[[]]:=by unfold Br;simp
 rw[Ct,h0] at e;rw[h0] at h1
 cases A with
 |nil=>left;have:([]:List Str)=M:=(A5F e).1;rw[<- this];exact as1 _
 |cons B A=>
   right
   obtain⟨e1,e2⟩:=A5F e;subst e1;have e2:Br ns new=A++M :: D:=e2;rw[e2] at h1;obtain⟨g1,g2⟩:=h1.at;refine⟨λx hx=>by simpa using g1 x hx,?_⟩;rcases g2 with g2|g2
   . left;rw[g2];simp
   exact .inr g2
structure CmI (ns:List Str)(ps:List (Str×Str))(T D:List (List Str))(ct:List ((Str->Bool)×Nat)):Prop where
 k1:∀ L∈Hc ns ct,L∈T
 k2:ns∈Hc ns ct
 k3:∀ M∈D,∀ x∈frF (Be ps) M,Ai M x∈Hc ns ct
 sm:∀ W loc,Rec (Be ps) W loc->Hk ns (K0 D W loc) ct=W ns
theorem CmI.start {ns:List Str}{ps:List (Str×Str)}{T:List (List Str)}(h:ns∈T):CmI ns ps T [] [(λ_=>true,1)]:=by
 have h0:ns.filter (λ_=>true)=ns:=by simp
 refine⟨λL hL=>?_,?_,λM hM=>(by cases hM),λW loc _=>?_⟩
 . have:L=ns:=by simpa[Hc,h0] using hL
   rw[this];exact h
 . rw[show Hc ns [((λ_=>true:Str->Bool),1)]=[ns.filter λ_=>true] from rfl,h0];exact A0M ..
 rw[C9];show 1*K0 [] W loc (ns.filter λ_=>true)+0=_;rw[h0];unfold K0;rw[if_neg (by simp)];omega
structure CmJ (ns:List Str)(ps:List (Str×Str))(M:List Str)(m:Nat)(ct1 ct2:List ((Str->Bool)×Nat)):Prop where
 ks:∀ L,L∈Hc ns ct2↔L∈Hc ns ct1\/∃ x∈(frF (Be ps) M).take m,L=Ai M x
 sm:∀ F,Hk ns F ct2=Hk ns F ct1+Hk ns (ind M) ct1*(((frF (Be ps) M).take m).map λx=>F (Ai M x)).sum
theorem CmJ.zero (ns:List Str)(ps:List (Str×Str))(M:List Str)(ct:List ((Str->Bool)×Nat)):CmJ ns ps M 0 ct ct:=⟨λL=>by simp,λF=>by simp⟩
theorem ap2 {L:List Str}{x:Str}(h:x∈L):Ai L x≠L:=λz=>by rw[<- z] at h;exact(mem_lessF.mp h).2 rfl
theorem CmJ.same {ns:List Str}{ps:List (Str×Str)}{M:List Str}{m:Nat}{ct1 ct2:List ((Str->Bool)×Nat)}(h:CmJ ns ps M m ct1 ct2):Hk ns (ind M) ct2=Hk ns (ind M) ct1:=by
 rw[h.sm]
 have:((frF (Be ps) M).take m).map (λx=>ind M (Ai M x))=((frF (Be ps) M).take m).map λ_=>0:=A12 λx hx=>by unfold ind;rw[A0J (ap2 (mem_frF.mp ((A46 _ _).subset hx)).1)]
 rw[this];generalize (frF (Be ps) M).take m=l
 have:(l.map λ_=>0).sum=0:=by
  induction l with
  |nil=>rfl
  |cons z r ih=>simpa using ih
 rw[this];omega
theorem CmJ.step {ns:List Str}{ps:List (Str×Str)}{M:List Str}{m:Nat}{ct1 ct2 ct3:List ((Str->Bool)×Nat)}{z:Str}{q:Str->Bool}(h:CmJ ns ps M m ct1 ct2)(hz:(frF (Be ps) M)[m]? = some z)(hq:ns.filter q=Ai M z)
  (g3:∀ k,k∈(Ip ns ct3).map (·.1)↔k∈(Ip ns ct2).map (·.1)\/k=Sum.inl ((B4 ns q:Nat):Int)) (g5:∀ F,Hk ns F ct3=Hk ns F ct2+Hk ns (ind M) ct2*F (ns.filter q)):CmJ ns ps M (m+1) ct1 ct3:=by
 refine⟨λL=>?_,λF=>?_⟩
 . have key:L∈Hc ns ct3↔L∈Hc ns ct2\/L=Ai M z:=by
    constructor
    . intro hL;obtain⟨e,he,rfl⟩:=A0E.mp hL;rcases(g3 _).mp (com_keys.mpr hL) with g|g
      . exact .inl (com_keys.mp g)
      right
      rw[<- hq];exact Nr (by have:=A33 g;omega)
    rintro(hL|rfl)
    . obtain⟨e,he,rfl⟩:=A0E.mp hL;exact com_keys.mp ((g3 _).mpr (.inl (com_keys.mpr hL)))
    rw[<- hq];exact com_keys.mp ((g3 _).mpr (.inr rfl))
   rw[key,h.ks,A0S,hz];constructor
   . rintro((a|⟨x,hx,e⟩)|e)
     . exact .inl a
     . exact .inr ⟨x,A0X _ hx,e⟩
     exact .inr ⟨z,by simp,e⟩
   rintro(a|⟨x,hx,e⟩)
   . exact .inl (.inl a)
   rcases A0G.mp hx with hx|hx
   . exact .inl (.inr ⟨x,hx,e⟩)
   have:x=z:=by simpa using hx
   exact .inr (this ▸ e)
 rw[g5,h.same,h.sm,hq,A0S,hz,A16,List.sum_append,Nat.mul_add];simp;omega
theorem CmI.step {ns:List Str}{ps:List (Str×Str)}{T A D:List (List Str)}{M:List Str}{ct1 ct2:List ((Str->Bool)×Nat)}(h:CmI ns ps T D ct1)(hT:T=A++M :: D)(hn:T.Nodup)(hM:M.Nodup)(hat:∀ x∈frF (Be ps) M,Ai M x∈A)(g:CmJ ns ps M (frF (Be ps) M).length ct1 ct2):CmI ns ps T (M :: D) ct2:=by
 have g1:=g.ks;have g2:=g.sm;rw[A11] at g1 g2;rw[hT] at hn;obtain⟨n1,n2,n3⟩:=A1S.mp hn;refine⟨λL hL=>?_,(g1 _).mpr (.inl h.k2),λN hN x hx=>?_,λW loc hR=>?_⟩
 . rcases(g1 L).mp hL with q|⟨x,hx,rfl⟩
   . exact h.k1 L q
   rw[hT];exact A0X _ (hat x hx)
 . rcases A0C.mp hN with rfl|hN
   . exact(g1 _).mpr (.inr ⟨x,hx,rfl⟩)
   exact(g1 _).mpr (.inl (h.k3 N hN x hx))
 exact tele hR hM (A0P.mp n2).1 (λx hx z=>n3 _ (hat x hx) _ z rfl) (h.sm W loc hR) g2
def wof (b:Str->Str->Bool)(loc:List Str->Nat):Nat->List Str->Nat
 |0,L=>loc L
 |n+1,L=>loc L+((frF b L).map λx=>wof b loc n (Ai L x)).sum
theorem an3 {b:Str->Str->Bool}(loc:List Str->Nat):Rec b (λL=>wof b loc L.length L) loc:=λL hn=>by
 show wof b loc L.length L=_
 cases hl:L.length with
 |zero=>have:L=[]:=A1C.mp hl;subst this;rfl
 |succ n=>show loc L+_=loc L+_;congr 2;refine A12 λx hx=>?_;have:=Cj hn (mem_frF.mp hx).1;show _=wof b loc (Ai L x).length (Ai L x);rw[show(Ai L x).length=n by omega]
theorem Jj {α:Type}{f:α->Nat}{c:Nat}:∀ {l:List α},(∀ x∈l,f x<=c)->(l.map f).sum<=l.length*c
 | [],_=>by simp
 |x :: r,h=>by have h1:=h x (A0M ..);have h2:=Jj (l:=r) λy hy=>h y (A0B _ hy);rw[A0H,A1I,A0N,A3Y];omega
theorem Ob {α:Type}{f:α->Nat}:∀ {l:List α},(∀ x∈l,f x=0)->(l.map f).sum=0
 | [],_=>rfl
 |x :: r,h=>by rw[A0H,A1I,h x (A0M ..),Ob (l:=r) λy hy=>h y (A0B _ hy)]
theorem ai6 {b:Str->Str->Bool}{L0:List Str}:∀(n:Nat) (L:List Str),L.Nodup->L.length=n->wof b (ind L0) n L<=fac n/\(n<L0.length->wof b (ind L0) n L=0)
 |0,L,_,hl=>by
   have:L=[]:=A1C.mp hl;subst this;refine⟨?_,λh=>?_⟩
   . show ind L0 []<=1;unfold ind
     split<;>omega
   show ind L0 []=0;unfold ind;rw[A0J (λz:([]:List Str)=L0=>by rw[<- z] at h;cases h)]
 |n+1,L,hn,hl=>by
   have sub:∀ x∈frF b L,wof b (ind L0) n (Ai L x)<=fac n/\(n<L0.length->wof b (ind L0) n (Ai L x)=0):=λx hx=>ai6 n (Ai L x) (Cs hn x) (by have:=Cj hn (mem_frF.mp hx).1;omega)
   have hfl:(frF b L).length<=n+1:=hl ▸ A1L _ _;refine⟨?_,λh=>?_⟩
   . show ind L0 L+((frF b L).map λx=>wof b (ind L0) n (Ai L x)).sum<=fac (n+1);rw[show fac (n+1)=(n+1)*fac n by simp[fac,Nat.mul_comm]]
     by_cases c:L=L0
     . have hz:((frF b L).map λx=>wof b (ind L0) n (Ai L x)).sum=0:=Ob λx hx=>(sub x hx).2 (by rw[<- c,hl];omega);rw[hz]
       have:1<=fac n:=by
        clear hz sub hfl hl c
        induction n with
        |zero=>exact A07 _
        |succ n ih=>rw[show fac (n+1)=(n+1)*fac n by simp[fac,Nat.mul_comm]];exact Nat.le_trans ih (Nat.le_mul_of_pos_left _ nofun)
       unfold ind;rw[A0R c];have:=Nat.le_mul_of_pos_left (fac n) (show 0<n+1 by omega);omega
     have h1:=Jj λx hx=>(sub x hx).1;have h2:=Nat.mul_le_mul_right (fac n) hfl;unfold ind at h1 ⊢;rw[A0J c];omega
   show ind L0 L+_=0;rw[Ob λx hx=>(sub x hx).2 nofun];unfold ind;rw[A0J (λz=>by rw[<- z] at h;omega)]
theorem CmI.sum {ns:List Str}{ps:List (Str×Str)}{T:List (List Str)}{ct:List ((Str->Bool)×Nat)}(h:CmI ns ps T T ct){W loc:List Str->Nat}(hR:Rec (Be ps) W loc):Hk ns loc ct=W ns:=by rw[<- h.sm W loc hR];refine X6 λe he=>?_;unfold K0;rw[A0R (h.k1 _ (A0E.mpr ⟨e,he,rfl⟩))]
theorem CmI.le {ns:List Str}{ps:List (Str×Str)}{T:List (List Str)}{ct:List ((Str->Bool)×Nat)}(h:CmI ns ps T T ct)(hn:ns.Nodup)(h10:ns.length<=10)(L:List Str):Hk ns (ind L) ct<=3628800:=by rw[h.sum (an3 (ind L))];exact A0L (ai6 _ ns hn rfl).1 (A0L (ak2 h10) ∅)
theorem CmI.share {ns:List Str}{ps:List (Str×Str)}{T:List (List Str)}{ct:List ((Str->Bool)×Nat)}(h:CmI ns ps T T ct)(hn:T.Nodup)(hW:HalfW ns ps){x y:Str}(hx:x∈ns)(hy:y∈ns)(hxy:x≠y) :
  (T.map λL=>Hk ns (ind L) ct*ah9 (Be ps) x y L).sum=cnt (Be (ps++[(x,y)])) ns:=by
 rw[Ve hn h.k1,h.sum (aB9 hxy),Qx hW hx hy];unfold ahN;rw[A0R ⟨hx,hy⟩]
def Tq (ns:List Str)(g:Str->Nat):List (Key×V):=ns.map λy=>((Sum.inr y:Key),V.int ((g y:Nat):Int))
structure TabN (H:Hp)(r:Addr)(ns:List Str)(as:List Addr)(f:Str->Str->Nat):Prop where
 len:as.length=ns.length
 nd:as.Nodup
 no:r∉as
 top:H r=some (.dK (Jh ns as))
 row:∀(j:Nat) x a,ns[j]? = some x->as[j]? = some a->H a=some (.dK (Tq ns (f x)))
theorem TabN.of {H H':Hp}{r:Addr}{ns:List Str}{as:List Addr}{f:Str->Str->Nat}(h:TabN H r ns as f)(e:∀ b o,b=r\/b∈as->H b=some o->H' b=some o):TabN H' r ns as f:=
 ⟨h.len,h.nd,h.no,e _ _ (.inl rfl) h.top,λj x a hj ha=>e _ _ (.inr (A04 ha)) (h.row j x a hj ha)⟩
theorem TabN.same {H H':Hp}{r:Addr}{ns:List Str}{as:List Addr}{f:Str->Str->Nat}(h:TabN H r ns as f)(e:Same H H'):TabN H' r ns as f:=h.of λb o _=>e b o
theorem TabN.at {H:Hp}{r:Addr}{ns:List Str}{as:List Addr}{f:Str->Str->Nat}(h:TabN H r ns as f){x:Str}(hx:x∈ns):∃(j:Nat) (a:Addr),ns[j]? = some x/\as[j]? = some a:=by obtain⟨j,hj⟩:=A1O.mp hx;have hl:=(A00.mp hj).1;exact⟨j,as[j]'(by rw[h.len];exact hl),hj,A05 _⟩
theorem ab1 {ns:List Str}(hn:ns.Nodup){g:Str->Nat}{z:Str}(hz:z∈ns){m:Nat}:Fs (Tq ns g) (Sum.inr z:Key) (.int ((m:Nat):Int))=Tq ns λy=>if y=z then m else g y:=by
 unfold Fs
 have hany:((Tq ns g).any λkv=>decide (kv.1=(Sum.inr z:Key)))=true:=by rw[A1Z];exact⟨_,List.mem_map.mpr ⟨z,hz,rfl⟩,by simp⟩
 rw[A0R hany];unfold Tq;rw[A1A];refine A12 λy _=>?_
 by_cases c:y=z
 . subst c;simp
 have:(Sum.inr y:Key)≠Sum.inr z:=λq=>c (by injection q);simp[c,this]
theorem TabN.put {H H':Hp}{r a:Addr}{ns:List Str}{as:List Addr}{f:Str->Str->Nat}(h:TabN H r ns as f)(hn:ns.Nodup){j:Nat}{x z:Str}{m:Nat}(hj:ns[j]? = some x)(ha:as[j]? = some a)(hz:z∈ns)(e:ExtBut a H H')(h':H' a=some (.dK (Fs (Tq ns (f x)) (Sum.inr z:Key) (.int ((m:Nat):Int))))) :
  TabN H' r ns as λx' y=>if x'=x/\y=z then m else f x' y:=by
 have ham:=A04 ha;refine⟨h.len,h.nd,h.no,e _ _ (λq=>h.no (q ▸ ham)) h.top,λi x' a' hi ha'=>?_⟩
 by_cases c:i=j
 . subst c;rw[hj] at hi
   cases hi;rw[ha] at ha'
   cases ha';rw[h',ab1 hn hz];congr 2;exact List.map_congr_left λy _=>by by_cases q:y=z<;>simp[q]
 have hne:a'≠a:=λq=>by subst q;obtain⟨l1,e1⟩:=A00.mp ha;obtain⟨l2,e2⟩:=A00.mp ha';exact c ((A1G h.nd).mp (e2.trans e1.symm))
 have hx:x'≠x:=λq=>by subst q;obtain⟨l1,e1⟩:=A00.mp hj;obtain⟨l2,e2⟩:=A00.mp hi;exact c ((A1G hn).mp (e2.trans e1.symm))
 rw[e _ _ hne (h.row i x' a' hi ha')];congr 2;exact List.map_congr_left λy _=>by simp[hx]
theorem a66 {ns:List Str}(hn:ns.Nodup)(g:Str->Nat):((Tq ns g).map (·.1)).Nodup:=by unfold Tq;rw[A1A];exact List.Pairwise.map _ (λa b h z=>h (by injection z)) hn
section
variable {K:W.Frag}{H H':Hp}{x:V}{ns:List Str}{σ:St}{Q:VK}
def NmS (K:W.Frag)(H:Hp)(x:V)(ns:List Str):Prop:=∃ a,x = .ref a/\(SqL K H a (ns.map V.str)\/SqT K H a (ns.map V.str))
theorem Rc {g:TG}{tt:TT}{te:TE}{k:Nat}{js:List Nat}(h:NmS K H x ns)(t:Str->Bool)(f:Str->PyData)(hf:∀ a,frz (f a)=true)(hz:ns.length<=1000000)
  (hs:∀(i:Nat) a H1 (R:VK) (R':Hp->Prop),ns[i]? = some a->Same H H1->(t a=true->∀ y H2,Same H1 H2->Is K H2 (f a) y->R y H2)->(t a=false->∀ H2,Same H1 H2->R' H2) ->
   g (.str a) (List.replicate k none++Pp σ js) H1 fun σ2 H2=>tt σ2 H2 λb H3=>if b=true then te σ2 H3 R else R' H3)
  (hd:∀ p ys H',H p=none->Same H H'->H' p=some (.lst ys)->IsL K H' ((ns.filter t).map f) ys->Q (.ref p) H'):Ge K x H λJ H1=>Ov k js g tt te σ J H1 Q:=by
 obtain⟨a,rfl,h | h⟩:=h
 . exact W9 h t f hf hz hs hd
 exact Ux (Xl h) t f hf hz hs hd
end
def qsD (p:Str×Str)(m n:Nat):PyData:=.tuple [prD p,.tuple [.int ((m:Nat):Int),.int ((n:Nat):Int)]]
theorem aj5 (p:Str×Str)(m n:Nat):frz (qsD p m n)=true:=by simp[qsD,frz,T3,Ng]
def quP (ns:List Str)(ps:List (Str×Str)):List PyData:=(unP ns ps).map λp=>qsD p (cnt (Be (ps++[(p.1,p.2)])) ns) (cnt (Be (ps++[(p.2,p.1)])) ns)
theorem Ky {K:W.Frag}{H:Hp}{d:PyData}{ds:List PyData}{vs:List V}(h:IsL K H (d :: ds) vs):∃ v r,vs=v :: r/\Is K H d v/\IsL K H ds r:=by simpa only[IsL] using h
section
variable {ns A B:List Str}{pA pB S:List (Str×Str)}
end
section
variable {prog:Program}{w:World}{A:Around}{E:Value->Shared->Prop}{s:Shared}{Q:Value->Shared->Prop}
theorem af4 {t:Addr}{m n:Int}{t1 t2:Tok}(hh:A.handled=none)(ht:s.heap.IsTuple t #[.int m t1,.int n t2])
  (h:∀ u h' tk,(∀ b o,s.heap.get? b=some o->h'.get? b=some o)->Q (.int (if n<m then n else m) u) {s with heap:=h',toks:=tk}) :
  wpAny (model prog w) A (call (.builtin "min") [.ref t]) Q E s:=by
 have hlt:t<s.heap.objs.size:=by obtain⟨_,e,_⟩:=ht;exact A06 e
 refine call_min_walk (A2Q ht ?_);have hne:t≠s.heap.objs.size:=A0K hlt;refine⟨_,_,_,_,_,_,_,rfl,Walks.tuple (A:=A.in1) hh s.heap.objs.size t hne #[.int m t1,.int n t2],⟨⟨_,A0D _ rfl,rfl,rfl⟩,?_⟩,λb hb=>?_,(by show 0<2;decide),CmpOf.ints_lt (λi=>if i=0 then m else n) (λi v hv=>?_),λv h' tk hP hk=>?_⟩
 . obtain⟨o,e,r⟩:=ht;exact⟨o,A01 _ e,r⟩
 . show b<(s.heap.push _).objs.size;rw[A1U];simp only[List.mem_cons,List.not_mem_nil,or_false] at hb;rcases hb with rfl|rfl
   . exact A32 _
   exact A2D hlt
 . match i,hv with
   |0,hv=>cases hv;exact⟨t1,rfl⟩
   |1,hv=>cases hv;exact⟨t2,rfl⟩
   |i+2,hv=>simp at hv
 have keep:∀ b o,s.heap.get? b=some o->h'.get? b=some o:=λb o e=>hk b o (λz=>by
  have z':b=s.heap.objs.size:=by simpa using z
  have e':=A06 e;rw[z'] at e';exact absurd e' (A1P _)) (A01 _ e)
 by_cases c:n<m
 . have hP:(#[Value.int m t1,.int n t2])[argBest (λi j=>decide ((if i=0 then m else n)<(if j=0 then m else n))) (2-1)]? = some v:=hP
   have e1:argBest (λi j=>decide ((if i=0 then m else n)<(if j=0 then m else n))) (2-1)=1:=by
    show(if decide ((if 0+1=0 then m else n)<(if 0=0 then m else n)) then 0+1 else 0)=1
    simp[c]
   rw[e1] at hP
   cases hP;have:=h t2 h' tk keep;rwa[A0R c] at this
 have hP:(#[Value.int m t1,.int n t2])[argBest (λi j=>decide ((if i=0 then m else n)<(if j=0 then m else n))) (2-1)]? = some v:=hP
 have e1:argBest (λi j=>decide ((if i=0 then m else n)<(if j=0 then m else n))) (2-1)=0:=by
  show(if decide ((if 0+1=0 then m else n)<(if 0=0 then m else n)) then 0+1 else 0)=0
  simp[c]
 rw[e1] at hP
 cases hP;have:=h t1 h' tk keep;rwa[A0J c] at this
end
abbrev ax7 (p:Pos):Arguments:={posonlyargs:=[],args:=[{arg:="question",annotation:=none,pos:=p}],vararg:=none,kwonlyargs:=[],kw_defaults:=[],kwarg:=none,defaults:=[]}
abbrev ax8 (p1 p2 p3 p4 p5:Pos):Expr:=.Call (.Name "min" p1) [.Subscript (.Name "question" p2) (.Constant (.int 1) 0 p3) p4] [] p5
abbrev ax6:Scope:={kind:=.function,names:=[("question",.local),("min",.globalImplicit)],isGenerator:=false,isCoroutine:=false,more:=[]}
section
variable {prog:Program}{w:World}{A:Around}{E:Value->Shared->Prop}{s:Shared}{Q:Value->Shared->Prop}
theorem ad4 {q c' a b:Addr}{qual:Str}{pm ctv x:Value}{p p1 p2 p3 p4 p5:Pos}{m n:Int}{t1 t2:Tok}{mg mb:Str->Option Value}(hh:A.handled=none)(hroom:A.depth<recursionLimit)
  (ho:s.heap.get? q=some (W.kla_obj "<lambda>" qual (ax7 p) (ax8 p1 p2 p3 p4 p5) ax6 [] pm c' ctv)) (hcd:s.heap.CodeRec (.ref c') qual) (lim:s.heap.NoLimit)
  (hg:s.heap.Ns mainGlobals mg) (hm:mg "min" = none) (hb:s.heap.Ns builtinsNs mb) (hmb:mb "min" = some (.builtin "min"))
  (ht:IsTup s.heap a #[x,.ref b]) (ht2:s.heap.IsTuple b #[.int m t1,.int n t2])
  (h:∀ u h' tk,(∀ b o,s.heap.get? b=some o->h'.get? b=some o)->Q (.int (if n<m then n else m) u) {s with heap:=h',toks:=tk}) :
  wpAny (model prog w) A (call (.ref q) [.ref a]) Q E s:=by
 refine A3I (W.kla_callFunE hroom ho rfl rfl rfl rfl hcd ?_);rw[show bindArgs (W.kla_fn "<lambda>" qual (ax7 p) (ax8 p1 p2 p3 p4 p5) ax6 [] pm (.ref c') ctv) ⟨[.ref a],[]⟩=(pure [(("question":Str),Value.ref a)]:Sem (List (Str×Value))) from rfl];refine A09 (wpAny_newFunctionEnv (λy hy=>?_) (λy hy=>?_) (λh₁ hns hsb=>⟨lim.fresh _ hsb,?_⟩) rfl)
 . simp only[List.mem_cons,List.not_mem_nil,or_false] at hy;rcases hy with rfl|rfl<;>simp
 . have:y=(("question":Str),Value.ref a):=by simpa using hy
   rw[this];rfl
 have hk₁:∀ b o,s.heap.get? b=some o->h₁.get? b=some o:=λb o e=>hsb.extBut b o (A0K (A06 e)) (A01 _ e);refine W.kla_codeExpr ?_;refine A1H (A40 rfl rfl (Calls.loadGlobal_builtin (hg.keeps hk₁) hm (hb.keeps hk₁) hmb ?_) rfl);refine A3L ?_ rfl rfl;refine A2N (Subscript_ (wpAny_Name (wpAny_loadName_local rfl rfl hns rfl (wpAny_Constant_int ?_)) rfl));refine subscriptTail_builtin (IsTup.typeIs (s:=_) (ht.keeps hk₁)) slot_tuple_getitem.lookup (getItem_tuple (j:=1) (ht.keeps hk₁) ∅ ∅ rfl rfl ?_);refine A3H ?_
 have ht3:h₁.IsTuple b #[.int m t1,.int n t2]:=by obtain⟨o,e,r⟩:=ht2;exact⟨o,hk₁ _ _ e,r⟩
 exact af4 (t:=b) hh ht3 λu h' tk hk=>h u h' tk λb o e=>hk b o (hk₁ b o e)
end
section
variable {X:Cx}{pins:List (Addr×Obj)}{σ:List (Option V)}{H:Hp}{s:Shared}{h':Heap}
def ao4 (K:W.Frag):List V->Hp->VK->Prop:=λvs H Q=>∃ l xs,∃ kf:Nat->Int,vs=[.ref l]/\SqL K H l xs/\0<xs.length/\(∀(i:Nat) v,xs[i]? = some v->∃ a b x m n,v = .ref a/\SqT K H a [x,.ref b]/\SqT K H b [.int m,.int n]/\kf i=if n<m then n else m) /\
 ∀(i:Nat) v,xs[i]? = some v->(∀ j,j<xs.length->kf i>=kf j/\(j<i->kf i>kf j))->Q v H
theorem a55 {Q:VK}{u:List Value}{q c':Addr}{qual:Str}{pm ctv:Value}{p p1 p2 p3 p4 p5:Pos}(hc:X.calm=true)(hroom:X.A.in1.depth<recursionLimit)(hmin:X.mg "min" = none)(I:Inv X pins σ H s){vs:List V}(r:Vals vs u)
  (ho:s.heap.get? q=some (W.kla_obj "<lambda>" qual (ax7 p) (ax8 p1 p2 p3 p4 p5) ax6 [] pm c' ctv)) (hcd:s.heap.CodeRec (.ref c') qual) (h:ao4 X.K vs H Q) :
  wpAny (model X.prog X.w) X.A (call (.builtin "max") u [(Str.ofString "key",.ref q)]) (EP X pins σ Q) X.xe s:=by
 obtain⟨l,xs,kf,rfl,hl,hne,hel,hq⟩:=h;obtain⟨v,rfl,rv⟩:=K6 r
 cases rv;obtain⟨its,r1,pl,_⟩:=I.list hl;have hil:=r1.length;obtain⟨m,hn,hlk⟩:=I.loc;have F:Fr X.base X.env.locals s.heap m:=⟨hn,I.bk,A0L I.ok.bsz I.ok.above⟩;have keep:∀ {h:Heap} {more:List (Addr×Obj)},Fr X.base X.env.locals h m->News X.base X.env.locals h (Ix X.base s.heap X.env.locals++more)->∀ b u,b≠X.env.locals->s.heap.get? b=some u->h.get? b=some u:=λF' N'=>T9 I.bk F'.keep N'
 have notD:∀ {c:Addr} {o:Obj},s.heap.get? c=some o->(∀ es ep,o.data ≠ .dict es ep)->c≠X.env.locals:=fun {c o} e1 e2 z=>by
  obtain⟨oL,es,ep,e4,e5⟩:=hn;rw[z,e4] at e1
  cases e1;exact e2 es ep e5.1
 have notT:∀ {c:Addr} {zs:Array Value},IsTup s.heap c zs->c≠X.env.locals:=fun {c zs} p=>by obtain⟨o,e1,e2,n,e3⟩:=p;exact notD e1 λes ep z=>by rw[e3] at z;cases z
 have notL:l≠X.env.locals:=by obtain⟨o,e1,e2,n,e3⟩:=pl.isList;exact notD e1 λes ep z=>by rw[e3] at z;cases z
 have fin:∀ {h:Heap} {t':Nat},Fr X.base X.env.locals h m->News X.base X.env.locals h (Ix X.base s.heap X.env.locals)->Inv X pins σ H {s with heap:=h,toks:=t'}:=fun {h t'} F' N'=>I.nsed (keep (more:=[]) F' (by rw[A22];exact N')) hlk F'.ns
 have tupK:∀ {h:Heap} {more:List (Addr×Obj)} {c:Addr} {zs:Array Value},Fr X.base X.env.locals h m->News X.base X.env.locals h (Ix X.base s.heap X.env.locals++more)->IsTup s.heap c zs->IsTup h c zs:=λF' N' p=>by have hne:=notT p;obtain⟨o,e1,e2⟩:=p;exact⟨o,keep F' N' _ _ hne e1,e2⟩
 refine kmk_max kf (vs:=its) (I.ok.hd hc) F aa1 (λh F' N'=>?_) nofun (λi v hv h tk own F' N'=>?_) (λi v h tk hv hb F' N'=>?_)
 . obtain⟨o,e1,e2⟩:=pl.isList;exact⟨o,keep (more:=[]) F' (by rw[A22];exact N') _ _ notL e1,e2⟩
 . obtain⟨x,hx,rx⟩:∃ x,xs[i]? = some x/\RelV x v:=by
    have hi:i<xs.length:=by rw[hil];exact(A00.mp hv).1
    obtain⟨u,hu,ru⟩:=r1.get (A05 hi);rw[hv] at hu
    cases hu;exact⟨_,A05 hi,ru⟩
   obtain⟨a,b,y,m',n',rfl,hS1,hS2,hk⟩:=hel i x hx
   cases rx;obtain⟨i1,w1,pa,_⟩:=I.tuple hS1;obtain⟨i2,w2,pb,_⟩:=I.tuple hS2;obtain⟨y1,y2,rfl,ry1,ry2⟩:=Vals.two w1
   cases ry2;obtain⟨z1,z2,rfl,rz1,rz2⟩:=Vals.two w2;obtain⟨tk1,rfl⟩:=rz1;obtain⟨tk2,rfl⟩:=rz2;obtain⟨mb,hb1,hb2⟩:=I.mod.blt;refine ad4 (s:={s with heap:=h,toks:=tk}) (m:=m') (n:=n') (t1:=tk1) (t2:=tk2) (mg:=X.mg) (mb:=mb) (I.ok.hd hc) hroom (keep F' N' _ _ (notD ho λes ep z=>by cases z) ho) ?_ (I.mod.nolimit.keeps F'.keep) (I.mod.glob.keeps F'.keep) hmin (hb1.keeps F'.keep) ((hb2 "min" ∅).trans PyProof.Rows.boot_min) (tupK F' N' pa) ?_ λu h2 tk2' hk2=>?_
   . obtain⟨c,oc,vs,tq,e0,e1,e2,e3⟩:=hcd
     cases e0;exact⟨c',oc,vs,tq,rfl,keep F' N' _ _ (notD e1 λes ep z=>by rw[e2] at z;cases z) e1,e2,e3⟩
   . have:=tupK F' N' pb;exact this
   rw[hk];exact KskEnd.intro ⟨F'.ns.keeps hk2,λb o e=>hk2 b o (F'.keep b o e),F'.above⟩ (λp hp=>⟨hk2 _ _ (N' p hp).1,(N' p hp).2⟩) λp hp=>hp
 obtain⟨x,hx,rx⟩:∃ x,xs[i]? = some x/\RelV x v:=by
  have hi:i<xs.length:=by rw[hil];exact(A00.mp hv).1
  obtain⟨u,hu,ru⟩:=r1.get (A05 hi);rw[hv] at hu
  cases hu;exact⟨_,A05 hi,ru⟩
 exact⟨x,H,fin F' N',rx,hq i x hx λj hj=>hb j nofun⟩
end
def Wn (c':Addr)(qual:Str):HO:=.ext λh=>h.CodeRec (.ref c') qual
def LamT (P:Addr)(line col:Nat)(qual:Str)(H:Hp):Prop:=H P=some (.tbl #[])\/∃ c',H P=some (.tbl #[rawInt line,rawInt col,.ref c'])/\H c'=some (Wn c' qual)
structure aP0 (X:Cx)(c P:Addr):Prop where
 code:X.env.code = .ref c
 hd:W.CodeHd X.base c P
 bi:X.base.BuiltinsAt X.mg P
 gP:mainGlobals≠P
section
variable {X:Cx}{pins:List (Addr×Obj)}{σ:List (Option V)}{H:Hp}{s:Shared}{h':Heap}
theorem L4 {c':Addr}{qual:Str}{h1 h2:Heap}(x:h1.CodeRec (.ref c') qual)(k:∀ o,h1.get? c'=some o->h2.get? c'=some o):h2.CodeRec (.ref c') qual:=by
 obtain⟨c,oc,vs,tq,e0,e1,e2,e3⟩:=x
 cases e0;exact⟨c',oc,vs,tq,rfl,k _ e1,e2,e3⟩
theorem Inv.grown {P c':Addr}{ps more:Array Value}{qual:Str}{t':Nat}(I:Inv X pins σ H s)(hP:H P=some (.tbl ps))(k:∀ b u,b≠P->s.heap.get? b=some u->h'.get? b=some u)(hP':h'.get? P=some (W.tabObj (ps++more)))(hc:s.heap.objs.size<=c')(hr:h'.CodeRec (.ref c') qual) :
  Inv X pins σ (upd (upd H P (.tbl (ps++more))) c' (Wn c' qual)) {s with heap:=h',toks:=t'}:=by
 have hcn:H c'=none:=I.hok.fresh hc;have hcP:c'≠P:=λz=>by rw[z,hP] at hcn;cases hcn
 have at_P:(upd (upd H P (.tbl (ps++more))) c' (Wn c' qual)) P=some (.tbl (ps++more)):=by rw[Ah hcP.symm,A9]
 have ot:∀ b,b≠P->b≠c'->(upd (upd H P (.tbl (ps++more))) c' (Wn c' qual)) b=H b:=λb h1 h2=>by rw[Ah h2,Ah h1]
 have trk:∀ b o,H b=some o->b≠c':=λb o e z=>by rw[z,hcn] at e;cases e
 refine I.call (ch:=[]) ⟨λb o e n _ _=>k b o (λz=>by rw[z,hP] at n;cases n) e,λb o e n _ _=>⟨o.slots,k b o (λz=>by rw[z,hP] at n;cases n) e⟩,λb o e n _=>?_,λb o e _=>?_,λb xs e=>?_,λb o u e=>?_,λb qs e=>?_⟩ (λb o e=>?_) I.bare (λb z=>absurd z (by simp))
 . rw[ot b (λz=>by rw[z,hP] at n;cases n) (λz=>by rw[z] at e;exact absurd (A06 e) (Nat.not_lt_of_le hc))];exact n
 . by_cases z:b=P
   . rw[z];exact⟨_,hP'⟩
   exact⟨o,k b o z e⟩
 . rw[ot b (λz=>by rw[z,hP] at e;cases e) (trk b _ e)];exact e
 . rw[ot b (λz=>by rw[z,hP] at e;cases e) (trk b _ e)];exact e
 . by_cases z:b=P
   . subst z;rw[hP] at e
     cases e;exact⟨more,at_P⟩
   exact⟨#[],by rw[ot b z (trk b _ e),e];simp⟩
 by_cases z:b=c'
 . subst z;rw[A9] at e
   cases e;refine⟨hr,?_,λh1 h2 x y=>L4 x y⟩;obtain⟨c,oc,vs,tq,e0,e1,_⟩:=hr
   cases e0;exact⟨oc,e1⟩
 by_cases z2:b=P
 . subst z2;rw[at_P] at e
   cases e;exact hP'
 rw[ot b z2 z] at e;refine(I.hok b o e).stay (λd u hd q=>k d u (λy=>?_) q) (λd q=>?_) λd xs q=>?_
 . rcases hd with rfl|hd
   . exact z2 y
   rw[y,hP] at hd;cases hd
 . rw[ot d (λy=>by rw[y,hP] at q;cases q) (trk d _ q)];exact q
 rw[ot d (λy=>by rw[y,hP] at q;cases q) (trk d _ q)];exact q
def ay4 (K:W.Frag)(P:Addr)(line col:Nat)(qual:Str)(t:TA):TE:=fun σ H Q=>t σ H λvs H1=>LamT P line col qual H1/\∀ H2,ExtBut P H1 H2->LamT P line col qual H2->ao4 K vs H2 Q
theorem a78 {K:W.Frag}{c P:Addr}{ea:Expr}{t:TE}{p p0 p1 p2 p3 p4 p5 pl p7 pos:Pos}(L:aP0 X c P)(hc:X.calm=true)(hroom:X.A.in1.depth<recursionLimit)(hg:Gl X "max")(hm:X.mg "max" = none)(hmin:X.mg "min" = none)(ha:PA X [ea] (ag4 t ar4))(hK:X.K=K:=by ac_nf)
  (he:backTo pos (starEach [ea] X.env)=(false,eval ea X.env) :: backTo pos (starEach [] X.env):=by ac_nf) (hpl:(backTo pos (starEach [ea] X.env)).any (·.1)=false:=by ac_nf) :
  PE X (.Call (.Name "max" p) [ea] [⟨some "key",.Lambda (ax7 p0) (ax8 p1 p2 p3 p4 p5) ax6 pl,p7⟩] pos) (ay4 K P pl.line pl.col (X.env.qual ++ "<lambda>") (ag4 t ar4)):=by
 subst hK;intro pins s σ H Q I h;refine A1H (J9 I hg hm PyProof.Rows.Boot.«max» ?_);refine callWith_kw (thn (ha pos pins s σ H _ I h) λus s1 ⟨vs,H1,I1,r1,q1⟩=>?_) he hpl rfl rfl;obtain⟨hT,q1⟩:=q1;refine kws_cons (W.kla_eval rfl ?_)
 have hbi:s1.heap.BuiltinsAt X.mg P:=by obtain⟨bm,ob,b1,b2,b3,b4,b5,b6⟩:=L.bi;exact⟨bm,ob,b1,b2,b3,b4,I1.bk _ _ b5,b6⟩
 rcases hT with hT|⟨c',hT,hC⟩
 . have hP:=I1.hok P _ hT;refine W.kla_makeFunction (mg:=X.mg) rfl I1.ok.glob (I1.mod.glob.keeps I1.bk) L.code (L.hd.keeps I1.bk) hP trivial rfl L.gP hbi λc' ctv h2 tk hx hge hlt hrec htb=>kws_nil ?_;have I2:=Inv.grown (t':=tk) (h':=h2.push (W.kla_obj "<lambda>" (X.env.qual ++ "<lambda>") (ax7 p0) (ax8 p1 p2 p3 p4 p5) ax6 [] ((X.mg "__name__").getD .none) c' ctv)) I1 hT (λb u hb e=>A01 _ (hx b u hb e)) (A01 _ htb) hge (L4 hrec λo e=>A01 _ e);refine a55 hc hroom hmin I2 r1 (A0D _ rfl) (L4 hrec λo e=>A01 _ e) (q1 _ ?_ ?_)
   . intro b o hb e;have hcn:H1 c'=none:=I1.hok.fresh hge;rw[Ah (λz=>by rw[z,hcn] at e;cases e),Ah hb];exact e
   have hcn:H1 c'=none:=I1.hok.fresh hge;have hcP:P≠c':=λz=>by rw[<- z,hT] at hcn;cases hcn
   exact .inr ⟨c',by rw[Ah hcP,A9];rfl,A9⟩
 have hP:=I1.hok P _ hT;obtain⟨hrec,_,_⟩:=I1.hok c' _ hC;refine W.kla_makeFunctionHit (mg:=X.mg) rfl I1.ok.glob (I1.mod.glob.keeps I1.bk) L.code (L.hd.keeps I1.bk) hP trivial (cv:=.ref c') (by simp[codeAmong,rawInt]) hbi λctv h2 tk hk hsz=>kws_nil ?_;have I2:Inv X pins σ H1 {s1 with heap:=h2.push {cls:=.type "function",data:=.func (W.kla_fn "<lambda>" (X.env.qual ++ "<lambda>") (ax7 p0) (ax8 p1 p2 p3 p4 p5) ax6 [] ((X.mg "__name__").getD .none) (.ref c') ctv)},toks:=tk}:=I1.kept λb u e=>A01 _ (hk b u e)
 exact a55 hc hroom hmin I2 r1 (A0D _ rfl) (L4 hrec λo e=>A01 _ (hk _ o e)) (q1 H1 .refl (.inr ⟨c',hT,hC⟩))
end
def as3 (P:Addr)(H:Hp):Prop:=H P=some (.tbl #[])/\∀ b,b≠P->H b=none\/∃ o xs,H b=some (.frz o (.lst xs))
theorem a01 {P:Program}{w:World}{K:W.Frag}{mg mb:Str->Option Value}{CX:CXT}{k:Nat}{fa a c Pt:Addr}{fd:FuncData}{x:Str}{sp:Sp}{s₁:Shared}{vs:List Value}{ns:List Int}
  (KX:K.In s₁.heap) (hns:s₁.heap.Ns mainGlobals mg) (hb:s₁.heap.Ns builtinsNs mb) (hbb:∀ x:Str,x ≠ "__name__" -> mb x=bootBuiltins x) (hlim:s₁.heap.NoLimit) (hg:s₁.gens = #[])
  (ha:s₁.heap.get? a=some {cls:=.type "list",data:=.seq vs.toArray}) (hi:IntsAre vs ns) (hl:ns.length<=sizeLine) (hr:Room k callerA)
  (hPt:s₁.heap.get? Pt=some (W.tabObj #[])) (hCd:W.CodeHd s₁.heap c Pt) (hKP:K.lookup Pt=none) (hBi:s₁.heap.BuiltinsAt mg Pt)
  (F:∀ base:Heap,K.In base->base.Ns mainGlobals mg->base.BuiltinsAt mg Pt->FnOk P w K mg base CX k fa fd [x] sp) (hbind:∀(s:Shared) (u:Value),BindsTo s fd ⟨[u],[]⟩ [(x,u)])
  (hsp:∀ H:Hp,as3 Pt H->SqL K H a (ns.map V.int)->sp [.ref a] H (λv _=>v = .bl true) λ_ _ _=>False)
  (hCX:∀ H e s',CX [] H s₁ (λ_ _ _=>False) e s'->False) :
  codeAny (model P w) callerA (.call (.ref fa) ⟨[.ref a],[]⟩) (λr s'=>r = .ok (.ret (.bool true))/\OldK s₁.heap s'.heap/\s'.os=s₁.os/\AllBare s'.gens) s₁:=by
 have rv:=Sl hi;have lenV:=hi.length;have haP:a≠Pt:=λz=>by rw[z,hPt] at ha;cases ha
 have core:∀ H:Hp,as3 Pt H->SqL K H a (ns.map V.int)->HOk P w H s₁.heap->(∀ b,H b≠none->b=a\/b=Pt)->(H a≠none->K.lookup a=none) ->
   codeAny (model P w) callerA (.call (.ref fa) ⟨[.ref a],[]⟩) (λr s'=>r = .ok (.ret (.bool true))/\OldK s₁.heap s'.heap/\s'.os=s₁.os/\AllBare s'.gens) s₁:=by
  intro H hO hS hok hA hK;have base_of:∀ {b:Addr} {o:Obj},s₁.heap.get? b=some o->H b=none->(a92 s₁.heap H).get? b=some o:=λe n=>ab8 e n
  have noA:∀ {b:Addr} {o:Obj},s₁.heap.get? b=some o->(∀ zs n,o.data ≠ .seq zs n)->(∀ zs,o.data ≠ .fields zs)->H b=none:=fun {b o} e d1 d2=>by
   cases q:H b with
   |none=>rfl
   |some u=>
     rcases hA b (by rw[q];simp) with e'|e'
     . subst e';rw[ha] at e;cases e;exact absurd rfl (d1 _ _)
     subst e';rw[hPt] at e;cases e;exact absurd rfl (d2 _)
  have nsK:∀ {b:Addr} {m:Str->Option Value},s₁.heap.Ns b m->(a92 s₁.heap H).Ns b m:=fun {b m} ⟨o,es,ep,e,d,r⟩=>⟨o,es,ep,base_of e (noA e (λ_ _ z=>by rw[d] at z;cases z) λ_ z=>by rw[d] at z;cases z),d,r⟩
  have hKb:K.In (a92 s₁.heap H):=λb o e=>base_of (KX b o e) (by
   cases q:H b with
   |none=>rfl
   |some u=>
     rcases hA b (by rw[q];simp) with e'|e'
     . subst e';rw[hK (by rw[q];simp)] at e;cases e
     subst e';rw[hKP] at e;cases e)
  have hM:Mod K mg (a92 s₁.heap H):=⟨hKb,nsK hns,⟨mb,nsK hb,hbb⟩,let ⟨mc,h1,h2⟩:=hlim;⟨mc,nsK h1,h2⟩⟩
  have hBi':(a92 s₁.heap H).BuiltinsAt mg Pt:=by obtain⟨bm,ob,b1,b2,b3,b4,b5,b6,b7,b8⟩:=hBi;exact⟨bm,ob,b1,b2,b3,b4,base_of b5 (noA b5 (λ_ _ z=>by rw[b8] at z;cases z) λ_ z=>by rw[b8] at z;cases z),b6,b7,b8⟩
  have e0:Env0 P w K mg (a92 s₁.heap H) callerA [] s₁ H:=⟨rfl,hM,λb o e=>au6 e,Nat.le_of_eq (Zw _ _),trivial,λb hb=>absurd (show b∈([]:List Addr) from hb) (by simp),hok,.of_eq hg⟩;refine A34 ((F _ hKb (nsK hns) hBi').run callerA [] s₁ H ⟨[.ref a],[]⟩ [.ref a] [.ref a] _ _ hr e0 (hbind s₁ (.ref a)) (.cons rfl .nil) (hsp H hO hS)) λr s' h=>?_
  cases r with
  |error e=>exact(hCX H e s' h).elim
  |ok fl=>
    cases fl with
    |next=>exact False.elim h
    |brk=>exact False.elim h
    |cont=>exact False.elim h
    |ret u=>
      obtain⟨v,H',os,bare,un,hok',r',q⟩:=h;have q':v = .bl true:=q;subst q';obtain rfl:u=Value.bool true:=r'
      have at_P:∃ ps,s'.heap.get? Pt=some (W.tabObj ps):=by obtain⟨more,z⟩:=un.tbls Pt _ hO.1;exact ⟨_,hok' Pt _ z⟩
      have keep:∀ b o,b≠Pt->s₁.heap.get? b=some o->s'.heap.get? b=some o:=λb o hb e=>by
       cases q:H b with
       |none=>exact un.keep b o e q (by intro z;exact absurd (show b∈([]:List Addr) from z) (by simp)) (by simp)
       |some u=>
         rcases hO.2 b hb with z|⟨ob,xs,z⟩
         . rw[q] at z;cases z
         have z2:=un.frzs b ob _ z;obtain⟨e1,_⟩:=hok b _ z;obtain⟨e2,_⟩:=hok' b _ z2;rw[e] at e1;cases e1;exact e2
      refine⟨rfl,⟨λb o e=>?_,λb o e=>?_⟩,os,bare⟩
      . by_cases hb:b=Pt
        . subst hb;obtain⟨ps,hp⟩:=at_P;rw[hPt] at e
          cases e;exact .inr (.inl ⟨(hCd.tab hPt).isCodeTable,rfl,#[],ps,rfl,by rw[Array.empty_append];exact hp⟩)
        exact .inl (keep b o hb e)
      by_cases hb:b=Pt
      . subst hb;obtain⟨ps,hp⟩:=at_P;exact⟨_,hp⟩
      exact⟨o,keep b o hb e⟩
 cases hk:K.lookup a with
 |some o=>
   have e:=KX a o hk;rw[ha] at e
   cases e;refine core (λb=>if b=Pt then some (.tbl #[]) else none) ⟨if_pos rfl,λb hb=>.inl (if_neg hb)⟩ (.inr ⟨_,vs.toArray,_,hk,rfl,rfl,rfl,by rw[List.size_toArray,lenV];exact hl,by simpa using rv⟩) (λb u z=>?_) (λb z=>?_) λz=>?_
   . by_cases hb:b=Pt
     . have z':=(A0R hb).symm.trans z
       cases z';subst hb;exact hPt
     have z':=(A0J hb).symm.trans z
     cases z'
   . by_cases hb:b=Pt
     . exact .inr hb
     exact absurd (A0J hb) z
   exact absurd (A0J haP) z
 |none=>
   refine core (λb=>if b=a then some (.frz {cls:=.type "list",data:=.seq vs.toArray} (.lst (ns.map V.int))) else if b=Pt then some (.tbl #[]) else none) ⟨(A0J haP.symm).trans (A0R rfl),λb hb=>?_⟩ (.inl (.inr ⟨{cls:=.type "list",data:=.seq vs.toArray},A0R rfl⟩)) (λb u z=>?_) (λb z=>?_) λ_=>hk
   . by_cases hba:b=a
     . exact .inr ⟨_,_,A0R hba⟩
     exact .inl ((A0J hba).trans (A0J hb))
   . by_cases hba:b=a
     . have z':=(A0R hba).symm.trans z
       cases z';subst hba;exact⟨ha,by rw[A02];exact hl,vs,_,rv,ha⟩
     have z':=(A0J hba).symm.trans z
     by_cases hb:b=Pt
     . have z'':=(A0R hb).symm.trans z'
       cases z'';subst hb;exact hPt
     have z'':=(A0J hb).symm.trans z'
     cases z''
   by_cases hba:b=a
   . exact .inl hba
   by_cases hb:b=Pt
   . exact .inr hb
   exact absurd ((A0J hba).trans (A0J hb)) z
theorem walk_ofT {l:W.OpenLaw}{n k:Nat}{q:Program}{loose:List Str}{XP:(Str->Option Value)->Heap->Prop}{YP:World->Heap->Prop}{d:DefRec}{K:Params->W.Frag}{CX:World->CXT}{sp:World->Sp}{x:Str}{Pt:Addr}
  (hn:l.most=some n) (hn2:n<=sizeLine) (hdf:d.params.defaults=[]) (hr:Room k callerA)
  (hY:∀(w:World) (h:Heap),YP w h->(K w.params).In h) (hYT:∀(w:World) (h:Heap),YP w h->h.get? Pt=some (W.tabObj #[])) (hKP:∀(w:World),(K w.params).lookup Pt=none)
  (F:∀(w:World) (mg:Str->Option Value) (fa:Addr) (h:Heap),(K w.params).In h->h.Ns mainGlobals mg->mg d.name=some (.ref fa) ->
   ∃ fd:FuncData,(∃ c,W.codeHdIn (K w.params) c Pt=true)/\(∀(s:Shared) (u:Value),BindsTo s fd ⟨[u],[]⟩ [(x,u)]) /\
    ∀ base:Heap,(K w.params).In base->base.Ns mainGlobals mg->base.BuiltinsAt mg Pt->FnOk l.prog w (K w.params) mg base (CX w) k fa fd [x] (sp w))
  (hsp:∀(w:World) (H:Hp) (a:Addr) (ns:List Int),ns.length<=n->as3 Pt H->SqL (K w.params) H a (ns.map V.int)->sp w [.ref a] H (λv _=>v = .bl true) λ_ _ _=>False)
  (hCX:∀(w:World) (H:Hp) (s:Shared) (e:Value) (s':Shared),CX w [] H s (λ_ _ _=>False) e s'->False) :
  W.WalkO q loose XP YP l.row.toRowW d [] (λf vs=>PySem.call f vs):=by
 refine Att.attach_call hn hdf λw s₀ s₁ mg mb fa o pm cd doc a vs ns G Y ho hd hcd hmg hobj hints hlen hg=>?_;have KX:=hY w _ Y;have hPt:=hYT w _ Y
 have hBi:s₁.heap.BuiltinsAt mg Pt:=by
  obtain⟨bm,ob,b1,b2,b3,b4,b5,b6⟩:=G.T.bmain;refine⟨bm,ob,b1,b2,λz=>?_,λz=>?_,b3,b4,b5,b6⟩
  . obtain⟨o',es,ep,e,hd',_⟩:=G.T.g;rw[z,e] at b3
    cases b3;rw[hd'] at b6
    cases b6
  rw[z,hPt] at b3
  cases b3
  cases b4
 obtain⟨fd,⟨c,hC⟩,hb,hF⟩:=F w mg fa _ KX G.T.g hmg;have hCd:=W.codeHd_of_K KX hC;exact a01 KX G.T.g G.T.b G.T.builtins G.T.nolimit hg hobj hints (A0L hlen hn2) hr hPt hCd (hKP w) hBi hF hb (λH hO hS=>hsp w H a ns hlen hO hS) λH e s'=>hCX w H s₁ e s'
theorem Fun.okC {P:Program}{w:World}{K:W.Frag}{mg:Str->Option Value}{base:Heap}{x qual:Str}{st:Stmt}{f c:Addr}{fd:FuncData}{N ps:List Str}{k:Nat}{sp:Sp}(F:Fun K x qual st f fd)(hc:fd.code = .ref c)(S:Ag N ps (A4 st))(len:∀ vs H Q E,sp vs H Q E->vs.length=ps.length)
  (hbody:∀(A:Around) (outer:List Env) (s:Shared) (H:Hp) (vs:List V) (Q:VK) (E:XK),Room k (A.deeper (envOfC qual (A4 st) s.heap.objs.size f (.ref c)))->sp vs H Q E ->
   ∃ t,PSs (Ul CX0 P w K mg base N qual (A4 st) f (.ref c) A outer s H E).nox (Aa st) t/\t {nx:=λ_ H'=>Q .non H',rt:=Q} (start N vs) H):FnOk P w K mg base CX0 (k+1) f fd ps sp:=by
 obtain⟨oc,od,kV,doc,pm,an,cdv,ct,osl,rfl,lk,hcd⟩:=F.ex;obtain rfl:cdv = .ref c:=hc;refine av9 lk hcd S len λA outer s H vs Q E hr hsp=>?_;obtain⟨t,h,q⟩:=hbody A outer s H vs Q E hr hsp;exact⟨t,h.nox,q⟩
structure aQ5 (K:W.Frag)(mg:Str->Option Value)(base:Heap)(c P:Addr):Prop where
 hd:W.CodeHd base c P
 bi:base.BuiltinsAt mg P
 gP:mainGlobals≠P
theorem LamT.of {P:Addr}{line col:Nat}{qual:Str}{H H':Hp}(h:LamT P line col qual H)(e:∀ b,(∃ ps,H b=some (.tbl ps))\/(∃ φ,H b=some (.ext φ))->∀ o,H b=some o->H' b=some o):LamT P line col qual H':=by
 rcases h with h|⟨c',h1,h2⟩
 . exact .inl (e P (.inl ⟨_,h⟩) _ h)
 exact .inr ⟨c',e P (.inl ⟨_,h1⟩) _ h1,e c' (.inr ⟨_,h2⟩) _ h2⟩
theorem LamT.same {P:Addr}{line col:Nat}{qual:Str}{H H':Hp}(h:LamT P line col qual H)(e:Same H H'):LamT P line col qual H':=h.of λb _ o q=>e b o q
theorem LamT.but {P d:Addr}{line col:Nat}{qual:Str}{H H':Hp}{u:HO}(h:LamT P line col qual H)(e:ExtBut d H H')(hd:H d=some u)(h1:∀ ps,u ≠ .tbl ps)(h2:∀ φ,u ≠ .ext φ):LamT P line col qual H':=h.of λb hb o q=>e b o (λz=>by
 subst z;rw[hd] at hb;rcases hb with ⟨ps,hb⟩|⟨φ,hb⟩
 . exact h1 ps (A0O hb)
 exact h2 φ (A0O hb)) q
section
variable {X:Cx}{K:W.Frag}
end
section
variable {ns A B:List Str}{pA pB S:List (Str×Str)}
end
section
variable {prog:Program}{w:World}{A:Around}{E:Value->Shared->Prop}{s:Shared}{Q:Value->Shared->Prop}
end
section
variable {X:Cx}{pins:List (Addr×Obj)}{σ:List (Option V)}{H:Hp}{s:Shared}{h':Heap}
end
section
variable {X:Cx}{pins:List (Addr×Obj)}{σ:List (Option V)}{H:Hp}{s:Shared}
end
section
variable {ns row:List Str}{ps:List (Str×Str)}
end
section
variable {X:Cx}
end
section
variable {prog:Program}{w:World}{A:Around}{E:Value->Shared->Prop}{s:Shared}
end
section
variable {X:Cx}{K:W.Frag}
end
section
variable {ps ps':List (Str×Str)}
end
def aP5 (P:Program)(w:World)(K:W.Frag)(mg:Str->Option Value)(base:Heap)(k:Nat)(C:Addr)(x:Str)(ps:List Str)(sp:Sp):Prop:=
 ∃ f fd,FnOk P w K mg base (CX1 P w) k f fd ps sp/\Mk K C f/\mg x=some (.ref C)/\Binds K fd ps []
def aR3 (C:Addr)(sp:Sp)(E:XK):List V->Hp->VK->Prop:=λvs H1 Q=>∀ x dx,H1 x=none->H1 dx=none->dx≠x ->
 sp (.ref x :: (vs++[])) (upd (upd H1 dx (.own x)) x (.ins C dx [])) (λv H2=>v = .non/\Q (.ref x) H2) E
section
variable {X:Cx}{k:Nat}{C:Addr}{x:Str}{ps:List Str}{sp:Sp}{e:Expr}{es:List Expr}{t:TA}{p pos:Pos}{E:XK}
theorem aH6 (F:aP5 X.prog X.w X.K X.mg X.base k C x ps sp)(hr:Room (k+1) X.A)(hg:Gl X x)(hx:Gh (CX1 X.prog X.w) X E)(ha:PA X (e :: es) t)(hdb:(x==("__debug__":Str))=false:=by decide)
  (he:starEach (e :: es) X.env=(false,eval e X.env) :: starEach es X.env:=by ac_nf) (hpl:(backTo pos (starEach es X.env)).any (·.1)=false:=by ac_nf) :
  PE X (.Call (.Name x p) (e :: es) [] pos) (aw9 C sp [] E t):=by
 obtain⟨f,fd,h1,h2,h3,h4⟩:=F;exact Y8 h2 h1 hr hg h3 h4 .nil hx ha hdb he hpl
end
section
variable {C:Addr}{sp:Sp}{t:TA}{σ:St}{H:Hp}{Q:VK}{E:XK}
theorem i_tMk1 (k:t σ H λvs H1=>aR3 C sp E vs H1 Q):aw9 C sp [] E t σ H Q:=k
theorem aO6 {vs:List V}(k:∀ x dx H2,H x=none->Same H H2->H2 x=some (.ins C dx [])->sp (.ref x :: (vs++[])) H2 (λv H3=>v = .non/\Q (.ref x) H3) E):aR3 C sp E vs H Q:=λx dx hx hd hne=>k x dx _ hx (λb o e=>by rw[Ah (ne_of_none e hx),Ah (ne_of_none e hd)];exact e) A9
end
inductive OddT (H:Hp):V->String->Prop where
 |non:OddT H .non "NoneType"
 |bl (b:Bool):OddT H (.bl b) "bool"
 |int (i:Int):OddT H (.int i) "int"
 |str (x:Str):OddT H (.str x) "str"
 |dK {a:Addr} {kvs:List (Key×V)} (e:H a=some (.dK kvs)):OddT H (.ref a) "dict"
theorem OddT.same {H H':Hp}{v:V}{c:String}(h:OddT H v c)(e:Same H H'):OddT H' v c:=by
 cases h with
 |non=>exact .non
 |bl b=>exact .bl b
 |int i=>exact .int i
 |str x=>exact .str x
 |dK q=>exact .dK (e _ _ q)
def aK7 (K:W.Frag):List V->Hp->VK->Prop:=λxs H Q=>∃(v:V) (c:String) (p:Addr) (cs:List String) (b:Bool),xs=[v,.ref p]/\OddT H v c/\H p=some (.tup (cs.map V.ty))/\W.kitAny K (.type c) (cs.map Value.type)=some b/\Q (.bl b) H
theorem Ze {X:Cx}:CallR X (.builtin "isinstance") (aK7 X.K):=by
 intro pins s σ H xs us Q I r h;obtain⟨v,c,p,cs,b,rfl,ty,hp,e,q⟩:=h;obtain⟨u,w',rfl,r1,r2⟩:=Rl r
 cases r2;obtain⟨_,its,ri,ob,g1,g2,⟨n,g3⟩,g4⟩:=(show ObjOk X.prog X.w H s.heap p (.tup (cs.map V.ty)) from I.hok p _ hp);obtain rfl:=Mp ri;obtain⟨oc,odd,oda,osl⟩:=ob;dsimp only at g2 g3 g4;subst g2 g3 g4
 cases ty with
 |non=>cases (show u=Value.none from r1);exact A2G W.kitx_none I.kIn A1J g1 e (λz=>nomatch z) λtk=>⟨.bl _,H,I.tok _,rfl,q⟩
 |bl y=>cases (show u=Value.bool y from r1);exact A2G W.kitx_bool I.kIn A1J g1 e (λz=>nomatch z) λtk=>⟨.bl _,H,I.tok _,rfl,q⟩
 |int i=>obtain⟨t,z⟩:=(show ∃ t,u=Value.int i t from r1);cases z;exact A2G W.kitx_int I.kIn A1J g1 e (λz=>nomatch z) λtk=>⟨.bl _,H,I.tok _,rfl,q⟩
 |str y=>obtain⟨t,z⟩:=(show ∃ t,u=Value.str y t from r1);cases z;exact A2G W.kitx_str I.kIn A1J g1 e (λz=>nomatch z) λtk=>⟨.bl _,H,I.tok _,rfl,q⟩
 |@dK a kvs ea=>cases (show u=Value.ref a from r1);obtain⟨_,_,vs,_,pp⟩:=(show ObjOk X.prog X.w H s.heap a (.dK kvs) from I.hok a _ ea);obtain⟨o,es,ep,h1,h2,_⟩:=pp;exact A2G W.kitx_dict I.kIn ⟨o,h1,h2.1⟩ g1 e (λz=>nomatch z) λtk=>⟨.bl _,H,I.tok _,rfl,q⟩
def am8 (K:W.Frag):List V->Hp->VK->Prop:=λxs H Q=>aB0 K xs H Q\/aK7 K xs H Q
theorem Tc {X:Cx}{K:W.Frag}(hK:X.K=K:=by ac_nf):CallR X (.builtin "isinstance") (am8 K):=hK ▸ (call_isU.or Yo).or Ze
theorem ah7 {K:W.Frag} {H:Hp} {Q:VK} {a p:Addr} {ys:List V} {cs:List String} {b:Bool} (h:SqL K H a ys\/SqT K H a ys) (hp:H p=some (.tup (cs.map V.ty))) (e:W.kitAny K (.type "tuple") (cs.map Value.type)=some b) (e':W.kitAny K (.type "list") (cs.map Value.type)=some b) (k:Q (.bl b) H):am8 K [.ref a,.ref p] H Q:=.inl (aA8 h hp e e' k)
theorem aC6 {K:W.Frag}{H:Hp}{Q:VK}{v:V}{c:String}{p:Addr}{cs:List String}{b:Bool}(h:OddT H v c)(hp:H p=some (.tup (cs.map V.ty)))(e:W.kitAny K (.type c) (cs.map Value.type)=some b)(k:Q (.bl b) H):am8 K [v,.ref p] H Q:=.inr ⟨v,c,p,cs,b,rfl,h,hp,e,k⟩
theorem Nw {b:Str->Str->Bool}(hb:∀ x y,b x y=false):∀(n:Nat) (L:List Str),L.length=n->L.Nodup->cnt b L=fac n
 |0,L,h,_=>by rw[A1C.mp h,L2.cnt_nil];rfl
 |n+1,L,h,hn=>by
   rw[a44 hn (by intro z;rw[z] at h;cases h)];have hf:frF b L=L:=List.filter_eq_self.mpr λx hx=>by simp[hb]
   rw[hf];have h1:(L.map λx=>cnt b (Ai L x))=L.map λ_=>fac n:=A12 λx hx=>Nw hb n (Ai L x) (by have:=Cj hn hx;omega) (Cs hn x);rw[h1,List.map_const',List.sum_replicate_nat,h]
   first | rfl | exact A4O _ _
def xF (K:W.Frag)(C B:Addr)(hf i0:Bool)(fs:List Str):Bool:=
 av0 K C&&(W.findIn K (.ref C) "__setattr__" == some (some (.builtin "object.__setattr__")))&&(W.findIn K (.ref C) "__getattribute__" == some (some (.builtin "BaseException.__getattribute__"))) &&
 (W.findIn K (.ref C) "__getattr__" == some none)&&(W.findIn K (.ref C) "__class__" == some (some (.builtin "object.__class__")))&&(hf||Fv K C B)&&W.keepIn K (.ref C)&&(!i0||Xq K C)&&fs.all λf=>W.findIn K (.ref C) f==some none
section
variable {K:W.Frag}{C B:Addr}{hf i0:Bool}{fs:List Str}
theorem To (h:xF K C B hf i0 fs=true):av0 K C=true/\W.findIn K (.ref C) "__setattr__" = some (some (.builtin "object.__setattr__"))/\W.findIn K (.ref C) "__getattribute__" = some (some (.builtin "BaseException.__getattribute__"))/\W.findIn K (.ref C) "__getattr__" = some none/\W.findIn K (.ref C) "__class__" = some (some (.builtin "object.__class__"))/\(hf=true\/Fv K C B=true)/\W.keepIn K (.ref C)=true/\(i0=true->Xq K C=true)/\∀ f∈fs,W.findIn K (.ref C) f=some none:=by unfold xF at h;simp only[Bool.and_eq_true,beq_iff_eq,Bool.or_eq_true,List.all_eq_true] at h;obtain⟨⟨⟨⟨⟨⟨⟨⟨h1,h2⟩,h3⟩,h4⟩,h5⟩,h6⟩,h7⟩,h8⟩,h9⟩:=h;exact⟨h1,h2,h3,h4,h5,h6,h7,λz=>by rw[z] at h8;simpa using h8,h9⟩
theorem xF.xc (h:xF K C B hf i0 fs=true)(cg:W.specialIn K (.builtin "object.__class__") "__get__" = some (some (.builtin "getset_descriptor.__get__")))(ct:W.takesIn K (.builtin "object.__class__")=some true):XC K C:=
 let ⟨h1,h2,h3,h4,h5,_⟩:=To h;⟨h1,h2,h3,h4,h5,cg,ct⟩
theorem xF.mr (h:xF K C B false i0 fs=true):Fv K C B=true:=(To h).2.2.2.2.2.1.resolve_left (λz=>by cases z)
theorem xF.kp (h:xF K C B hf i0 fs=true):W.keepIn K (.ref C)=true:=(To h).2.2.2.2.2.2.1
theorem xF.no (h:xF K C B hf true fs=true):Xq K C=true:=(To h).2.2.2.2.2.2.2.1 rfl
theorem xF.n (h:xF K C B hf i0 fs=true){f:Str}(hf:f∈fs):NoAttr K C f:=(To h).2.2.2.2.2.2.2.2 f hf
end
end L2
namespace K74
open PySem L2 PySem.Spec PyProof.Rows
def top (i:Nat):Stmt:=PySem.Challenge.pw_halforder_k74_keepers_begun.main.body.getD i (.Pass ⟨0,0,0,0⟩)
abbrev B9:Stmt:=top 17
theorem G7:Ag ["half","asked","name"] ["half","asked"] (A4 B9):=⟨rfl,rfl,rfl,by decide +kernel,rfl,by decide +kernel,by decide +kernel⟩
abbrev Cw:Stmt:=top 18
theorem Cm:Ag ["half","names","reach","saying","middle","name"] ["half"] (A4 Cw):=⟨rfl,rfl,rfl,by decide +kernel,rfl,by decide +kernel,by decide +kernel⟩
abbrev Eb:Stmt:=top 19
theorem R7:Ag ["reach","one","other"] ["reach","one","other"] (A4 Eb):=⟨rfl,rfl,rfl,by decide +kernel,rfl,by decide +kernel,by decide +kernel⟩
abbrev Et:Stmt:=top 20
theorem Fj:Ag ["reach","names","pairs","place","one"] ["reach"] (A4 Et):=⟨rfl,rfl,rfl,by decide +kernel,rfl,by decide +kernel,by decide +kernel⟩
abbrev Ji:Stmt:=top 21
theorem Ya:Ag ["half"] ["half"] (A4 Ji):=⟨rfl,rfl,rfl,by decide +kernel,rfl,by decide +kernel,by decide +kernel⟩
abbrev Hj:Stmt:=top 23
theorem Hd:Ag ["names","bits","bit","name"] ["names"] (A4 Hj):=⟨rfl,rfl,rfl,by decide +kernel,rfl,by decide +kernel,by decide +kernel⟩
abbrev Dz:Stmt:=top 24
theorem Fu:Ag ["half","bits","reach","found","name"] ["half","bits"] (A4 Dz):=⟨rfl,rfl,rfl,by decide +kernel,rfl,by decide +kernel,by decide +kernel⟩
abbrev Lq:Stmt:=top 26
theorem W7:Ag ["half","ways"] ["half"] (A4 Lq):=⟨rfl,rfl,rfl,by decide +kernel,rfl,by decide +kernel,by decide +kernel⟩
abbrev Hi:Stmt:=top 30
theorem X0:Ag ["thing"] ["thing"] (A4 Hi):=⟨rfl,rfl,rfl,by decide +kernel,rfl,by decide +kernel,by decide +kernel⟩
abbrev Bc:Stmt:=top 31
theorem Ka:Ag ["thing"] ["thing"] (A4 Bc):=⟨rfl,rfl,rfl,by decide +kernel,rfl,by decide +kernel,by decide +kernel⟩
abbrev Bu:Stmt:=top 35
theorem Li:Ag ["thing"] ["thing"] (A4 Bu):=⟨rfl,rfl,rfl,by decide +kernel,rfl,by decide +kernel,by decide +kernel⟩
abbrev Bx:Stmt:=top 36
theorem Bo:Ag ["sayings","start","goal","ways","waiting","name","number","saying"] ["sayings","start","goal"] (A4 Bx):=⟨rfl,rfl,rfl,by decide +kernel,rfl,by decide +kernel,by decide +kernel⟩
abbrev Dy:Stmt:=top 38
theorem Ep:Ag ["ways","comings","left","name","rest"] ["ways"] (A4 Dy):=⟨rfl,rfl,rfl,by decide +kernel,rfl,by decide +kernel,by decide +kernel⟩
abbrev Fd:Stmt:=top 39
theorem Bz:Ag ["half","ways","comings","found","left","name","rest","many","other"] ["half"] (A4 Fd):=⟨rfl,rfl,rfl,by decide +kernel,rfl,by decide +kernel,by decide +kernel⟩
abbrev Ew:Stmt:=top 40
theorem M4:Ag ["half","shares"] ["half"] (A4 Ew):=⟨rfl,rfl,rfl,by decide +kernel,rfl,by decide +kernel,by decide +kernel⟩
abbrev Pn:Stmt:=top 41
theorem Xu:Ag ["half","found"] ["half"] (A4 Pn):=⟨rfl,rfl,rfl,by decide +kernel,rfl,by decide +kernel,by decide +kernel⟩
abbrev Ez:Stmt:=top 46
theorem So:Ag ["_law_script"] ["_law_script"] (A4 Ez):=⟨rfl,rfl,rfl,by decide +kernel,rfl,by decide +kernel,by decide +kernel⟩
abbrev Ev:Stmt:=top 47
theorem Fi:Ag ["_law_feed_here","_law_many","_law_cell","_law_mixed","_law_found"] ["_law_feed_here","_law_many"] (A4 Ev):=⟨rfl,rfl,rfl,by decide +kernel,rfl,by decide +kernel,by decide +kernel⟩
abbrev Ea:Stmt:=top 48
theorem Aq:Ag ["_law_feed_here","_law_many","_law_letters","_law_start","_law_way","_law_size","_law_at","_law_names_here","_law_head","_law_tail","_law_turn"] ["_law_feed_here","_law_many"] (A4 Ea):=⟨rfl,rfl,rfl,by decide +kernel,rfl,by decide +kernel,by decide +kernel⟩
abbrev Ck:Stmt:=top 49
theorem G1:Ag ["_law_e","_law_found","_law_strange"] ["_law_e"] (A4 Ck):=⟨rfl,rfl,rfl,by decide +kernel,rfl,by decide +kernel,by decide +kernel⟩
abbrev Cp:Stmt:=top 50
theorem Aw:Ag ["_law_keeper","_law_word","_law_one","_law_other","_law_found","_law_e"] ["_law_keeper","_law_word","_law_one","_law_other"] (A4 Cp):=⟨rfl,rfl,rfl,by decide +kernel,rfl,by decide +kernel,by decide +kernel⟩
abbrev Ec:Stmt:=top 51
theorem Ca:Ag ["_law_thing","_law_found","_law_e","_law_strange"] ["_law_thing"] (A4 Ec):=⟨rfl,rfl,rfl,by decide +kernel,rfl,by decide +kernel,by decide +kernel⟩
abbrev Bp:Stmt:=top 52
theorem Az:Ag ["_law_keeper","_law_names_here","_law_many","_law_k","_law_pairs","_law_found"] ["_law_keeper","_law_names_here"] (A4 Bp):=⟨rfl,rfl,rfl,by decide +kernel,rfl,by decide +kernel,by decide +kernel⟩
abbrev Ed:Stmt:=top 53
theorem Bh:Ag ["_law_keeper","_law_names_here","_law_way","_law_one","_law_other","_law_many","_law_k","_law_due","_law_words","_law_found"] ["_law_keeper","_law_names_here","_law_way"] (A4 Ed):=⟨rfl,rfl,rfl,by decide +kernel,rfl,by decide +kernel,by decide +kernel⟩
abbrev Qj:Stmt:=top 54
theorem Io:Ag ["_law_script","_law_feed_here","_law_turn","_law_names_here","_law_handed","_law_keeper","_law_eleven","_law_some","_law_few","_law_bad","_law_thing"] ["_law_script"] (A4 Qj):=⟨rfl,rfl,rfl,by decide +kernel,rfl,by decide +kernel,by decide +kernel⟩
abbrev Fc:Stmt:=Ce (top 25) 0
theorem Rt:Ag ["self","half"] ["self","half"] (A4 Fc):=⟨rfl,rfl,rfl,by decide +kernel,rfl,by decide +kernel,by decide +kernel⟩
abbrev Bm:Stmt:=Ce (top 25) 1
theorem Ks:Ag ["self","left"] ["self","left"] (A4 Bm):=⟨rfl,rfl,rfl,by decide +kernel,rfl,by decide +kernel,by decide +kernel⟩
abbrev C4:Stmt:=Ce (top 25) 2
theorem Nc:Ag ["self","left"] ["self","left"] (A4 C4):=⟨rfl,rfl,rfl,by decide +kernel,rfl,by decide +kernel,by decide +kernel⟩
abbrev Cb:Stmt:=Ce (top 44) 0
theorem Js:Ag ["self","names"] ["self","names"] (A4 Cb):=⟨rfl,rfl,rfl,by decide +kernel,rfl,by decide +kernel,by decide +kernel⟩
abbrev Gn:Stmt:=Ce (top 44) 2
abbrev Fx:Stmt:=Ce (top 44) 3
abbrev De:Stmt:=Ce (top 44) 4
theorem Pb:Ag ["self"] ["self"] (A4 De):=⟨rfl,rfl,rfl,by decide +kernel,rfl,by decide +kernel,by decide +kernel⟩
abbrev Dc:Stmt:=Ce (top 44) 5
theorem Ot:Ag ["self"] ["self"] (A4 Dc):=⟨rfl,rfl,rfl,by decide +kernel,rfl,by decide +kernel,by decide +kernel⟩
abbrev Bw:Stmt:=Ce (top 44) 6
theorem Lp:Ag ["self"] ["self"] (A4 Bw):=⟨rfl,rfl,rfl,by decide +kernel,rfl,by decide +kernel,by decide +kernel⟩
abbrev C7:Stmt:=Ce (top 44) 7
theorem Il:Ag ["self","number","entry"] ["self","number"] (A4 C7):=⟨rfl,rfl,rfl,by decide +kernel,rfl,by decide +kernel,by decide +kernel⟩
abbrev Cv:Stmt:=Ce (top 44) 8
theorem Ou:Ag ["self"] ["self"] (A4 Cv):=⟨rfl,rfl,rfl,by decide +kernel,rfl,by decide +kernel,by decide +kernel⟩
abbrev Dd:Stmt:=Ce (top 44) 9
theorem Op:Ag ["self"] ["self"] (A4 Dd):=⟨rfl,rfl,rfl,by decide +kernel,rfl,by decide +kernel,by decide +kernel⟩
abbrev Cy:Stmt:=Ce (top 44) 10
theorem Oj:Ag ["self"] ["self"] (A4 Cy):=⟨rfl,rfl,rfl,by decide +kernel,rfl,by decide +kernel,by decide +kernel⟩
abbrev Co:Stmt:=Ce (top 44) 11
theorem J5:Ag ["self","name","other","reach"] ["self","name","other"] (A4 Co):=⟨rfl,rfl,rfl,by decide +kernel,rfl,by decide +kernel,by decide +kernel⟩
abbrev Bn:Stmt:=Ce (top 44) 12
theorem Gm:Ag ["self","name","other","way"] ["self","name","other"] (A4 Bn):=⟨rfl,rfl,rfl,by decide +kernel,rfl,by decide +kernel,by decide +kernel⟩
abbrev Cz:Stmt:=Ce (top 44) 13
theorem Pd:Ag ["self","name","other"] ["self","name","other"] (A4 Cz):=⟨rfl,rfl,rfl,by decide +kernel,rfl,by decide +kernel,by decide +kernel⟩
abbrev Df:Stmt:=Ce (top 2) 0
theorem Oi:Ag ["self","word","number"] ["self","word","number"] (A4 Df):=⟨rfl,rfl,rfl,by decide +kernel,rfl,by decide +kernel,by decide +kernel⟩
abbrev Db:Stmt:=Ce (top 4) 0
theorem Pe:Ag ["self","name"] ["self","name"] (A4 Db):=⟨rfl,rfl,rfl,by decide +kernel,rfl,by decide +kernel,by decide +kernel⟩
abbrev C8:Stmt:=Ce (top 14) 0
theorem M8:Ag ["self","number"] ["self","number"] (A4 C8):=⟨rfl,rfl,rfl,by decide +kernel,rfl,by decide +kernel,by decide +kernel⟩
structure Gg (mg:Str->Option Value):Prop where
 g_MOST_NAMES:∃ u,mg "MOST_NAMES" = some u/\RelV (.int 10) u
 g_MOST_SIGNS:∃ u,mg "MOST_SIGNS" = some u/\RelV (.int 8) u
 g_SMALL_LETTERS:∃ u,mg "SMALL_LETTERS" = some u/\RelV (.str "abcdefghijklmnopqrstuvwxyz") u
 b_ValueError:mg "ValueError" = none
 b_all:mg "all" = none
 b_dict:mg "dict" = none
 b_enumerate:mg "enumerate" = none
 b_int:mg "int" = none
 b_isinstance:mg "isinstance" = none
 b_len:mg "len" = none
 b_list:mg "list" = none
 b_max:mg "max" = none
 b_min:mg "min" = none
 b_range:mg "range" = none
 b_repr:mg "repr" = none
 b_reversed:mg "reversed" = none
 b_set:mg "set" = none
 b_str:mg "str" = none
 b_sum:mg "sum" = none
 b_tuple:mg "tuple" = none
structure Go (K:W.Frag)(C:Addr):Prop where
 cl:Cls K C
 n_names:NoAttr K C "names"
 n_bits:NoAttr K C "bits"
 n_ahead:NoAttr K C "ahead"
 n_full:NoAttr K C "full"
 n_known:NoAttr K C "known"
structure Av (K:W.Frag)(C:Addr):Prop where
 cl:Cls K C
 n_names:NoAttr K C "names"
 n_now:NoAttr K C "now"
 n_past:NoAttr K C "past"
 n_undone:NoAttr K C "undone"
structure Ap (K:W.Frag)(mg:Str->Option Value)(C B:Addr):Prop where
 xc:XC K C
 gl:mg "HalfError" = some (.ref C)
 mk0:ax5 K mg C "HalfError"
structure Hg (K:W.Frag)(mg:Str->Option Value)(C B:Addr):Prop where
 xc:XC K C
 gl:mg "NoHalf" = some (.ref C)
 mr:Fv K C B=true
 n_word:NoAttr K C "word"
 n_number:NoAttr K C "number"
structure Lh (K:W.Frag)(mg:Str->Option Value)(C B:Addr):Prop where
 xc:XC K C
 gl:mg "NoText" = some (.ref C)
 mr:Fv K C B=true
 n_row:NoAttr K C "row"
structure Bv (K:W.Frag)(mg:Str->Option Value)(C B:Addr):Prop where
 xc:XC K C
 gl:mg "NoName" = some (.ref C)
 mr:Fv K C B=true
 n_name:NoAttr K C "name"
structure K7 (K:W.Frag)(mg:Str->Option Value)(C B:Addr):Prop where
 xc:XC K C
 gl:mg "TooMany" = some (.ref C)
 mr:Fv K C B=true
 n_word:NoAttr K C "word"
structure Jz (K:W.Frag)(mg:Str->Option Value)(C B:Addr):Prop where
 xc:XC K C
 gl:mg "NoCover" = some (.ref C)
 mr:Fv K C B=true
 mk0:ax5 K mg C "NoCover"
structure Kb (K:W.Frag)(mg:Str->Option Value)(C B:Addr):Prop where
 xc:XC K C
 gl:mg "NoPlace" = some (.ref C)
 mr:Fv K C B=true
 n_number:NoAttr K C "number"
structure Ke (K:W.Frag)(mg:Str->Option Value)(C B:Addr):Prop where
 xc:XC K C
 gl:mg "NoOrder" = some (.ref C)
 mr:Fv K C B=true
 mk0:ax5 K mg C "NoOrder"
structure Lg (K:W.Frag)(mg:Str->Option Value)(C B:Addr):Prop where
 xc:XC K C
 gl:mg "NoJoin" = some (.ref C)
 mr:Fv K C B=true
 n_word:NoAttr K C "word"
structure Np (K:W.Frag)(mg:Str->Option Value)(C B:Addr):Prop where
 xc:XC K C
 gl:mg "Clash" = some (.ref C)
 mr:Fv K C B=true
 n_way:NoAttr K C "way"
structure Jw (K:W.Frag)(mg:Str->Option Value)(C B:Addr):Prop where
 xc:XC K C
 gl:mg "NoPaper" = some (.ref C)
 mr:Fv K C B=true
 n_word:NoAttr K C "word"
 n_row:NoAttr K C "row"
structure Lc (K:W.Frag)(mg:Str->Option Value)(C B:Addr):Prop where
 xc:XC K C
 gl:mg "NoPlan" = some (.ref C)
 mr:Fv K C B=true
 n_word:NoAttr K C "word"
 n_path:NoAttr K C "path"
structure Kg (K:W.Frag)(mg:Str->Option Value)(C B:Addr):Prop where
 xc:XC K C
 gl:mg "NoBound" = some (.ref C)
 mr:Fv K C B=true
 n_word:NoAttr K C "word"
 n_row:NoAttr K C "row"
structure Ef (K:W.Frag)(mg:Str->Option Value)(C B:Addr):Prop where
 xc:XC K C
 gl:mg "NoSaying" = some (.ref C)
 mr:Fv K C B=true
 n_number:NoAttr K C "number"
structure G0 (K:W.Frag)(mg:Str->Option Value)(C B:Addr):Prop where
 xc:XC K C
 gl:mg "NoMore" = some (.ref C)
 mr:Fv K C B=true
 mk0:ax5 K mg C "NoMore"
section
variable {P:Program}{w:World}{K:W.Frag}{mg:Str->Option Value}{base:Heap}
local macro_rules | `(tactic| walk_at "lk") => L2.mRows "as | Same.lk e h: e=as h=lk | ExtBut.lk e h n: e=as n=ne h=lk | no"
local macro_rules | `(tactic| walk_at "ne") => L2.mRows "as | Ne.symm q: q=as | ne_of_none h g: g=as h=lk | ne_none2 h g: g=as h=lk | ne_of h g z: h=as g=as z=nc | no"
local macro_rules | `(tactic| walk_at "nc") => `(tactic| (intro z; cases z))
local macro_rules | `(tactic| walk_at "fr") => L2.mRows "ExtBut.refl | ExtBut.trans a b: b=as a=fr | ExtBut.same a b: b=as a=fr | ExtBut.off a q b: b=as q=as a=fr | no"
local macro_rules | `(tactic| walk_at "sm") => L2.mRows "same_refl | Same.trans a b: b=as a=sm | Same.off a q b: b=as q=as a=sm | no"
local macro_rules | `(tactic| walk_at "fd") => L2.mRows "as | Feed.same h e: e=as h=fd | Feed.off h e q f: e=as q=as f=as h=fd | no"
local macro_rules | `(tactic| walk_at "fz1") => L2.mRows "Same.fz b: b=as | ExtBut.fzL b l: b=as l=lk | ExtBut.fzD b l: b=as l=lk | Feed.fz f b: b=as f=fd | no"
local macro_rules | `(tactic| walk_at "fz") => L2.mRows "fz_refl | Fz.trans a x: x=fz1 a=fz | no"
local macro_rules | `(tactic| walk_at "sd") => `(tactic| first | omega | (show (0 : Int) < _; omega) | (unfold aO7; omega) | (unfold CMul; omega) | (unfold aM9; omega) | (unfold aM9; decide) | (refine ⟨?_, ?_⟩ <;> omega) | decide)
local macro_rules | `(tactic| walk_at "sz") => `(tactic| first | decide | exact A8 (by omega) | (rw [sizeLine_eq]; omega))
local macro_rules | `(tactic| walk_at "kv") => `(tactic| rfl)
local macro_rules | `(tactic| walk_at "rq1") => do
 let a <- L2.mAlts "i_asg i_gname i_ret i_drop i_if i_op i_un i_call i_cb i_cons i_nil i_c i_put i_tTest i_tB i_not i_and i_or i_tup i_lst i_next i_sl i_noPart i_part i_int i_for i_rng1 i_rng2 i_comp i_itS i_iany i_ienum i_ienumL i_irev i_chain i_andV i_orV i_notV i_dget1 i_tAt i_sSt i_tMe i_tMk i_tTru i_dget2 i_iDT i_bmT i_rU i_rI0 i_addI i_bl i_bm i_bm0 i_reprKB i_isN i_isNotN i_isB i_isNotB i_true i_tyS i_find i_intB i_inS i_pair i_pair0 iteR iteNR iteNbb itebb iteT iteF iteNT iteNF"
 let b <- L2.mRows "i_var w _: w=kv | i_rI w _: w=sd | i_mulBI w _: w=sd | i_tyLm w _: w=lk | i_ixD w v _: w=lk v=kv | i_eqS w _: w=kv | i_neS w _: w=kv | i_slS w _: w=sz | i_addS w _: w=sz | i_lenS w _: w=sz | i_lenL w _: w=lk | i_lenT w _: w=lk | i_cutN w _: w=ar"
 let c <- L2.mAltG "i_seqAG i_seqDG i_seqPG"
 `(tactic| first | $c:tactic | $a:tactic | $b:tactic)
local macro_rules | `(tactic| walk_at "rd1") => `(tactic| first | with_reducible refine aF9 fun N hN => ?_ | walk_at "rq1")
local macro_rules | `(tactic| walk_at "rq") => `(tactic| repeat (walk_at "rq1"))
local macro_rules | `(tactic| walk_at "rd") => `(tactic| repeat (walk_at "rd1"))
def Fq (l:Addr)(a t u:Int):List (Key×V):=[(Sum.inr "cells",.ref l),(Sum.inr "at",.int a),(Sum.inr "left",.int t),(Sum.inr "turn",.int u)]
def Feed (H:Hp)(d l:Addr):Prop:=∃(a t u:Int) (ns:List Int),H d=some (.dK (Fq l a t u))/\H l=some (.lst (ns.map V.int))/\0<ns.length/\ns.length<=64
def Iq (K:W.Frag):Sp:=λvs H Q _=>∃(a:Addr) (ns:List Int),vs=[.ref a]/\SqL K H a (ns.map V.int)/\ns.length<=63/\∀ d l H',H d=none->H l=none->Same H H'->Feed H' d l->Q (.ref d) H'
def Gk (K:W.Frag):Sp:=λvs H Q _=>∃ d l n,vs=[.ref d,.int n]/\Feed H d l/\0<n/\n<1073741824/\∀ r H',0<=r->r<n->ExtBut d H H'->Feed H' d l->Q (.int r) H'
theorem ad7 {l:Addr}{a t u:Int}:Dj (Fq l a t u) (Sum.inr "cells":Key)=some (.ref l):=by rfl
theorem aO9 {l:Addr}{a t u:Int}:Dj (Fq l a t u) (Sum.inr "at":Key)=some (.int a):=by rfl
theorem ap7 {l:Addr}{a t u:Int}:Dj (Fq l a t u) (Sum.inr "left":Key)=some (.int t):=by rfl
theorem au0 {l:Addr}{a t u:Int}:Dj (Fq l a t u) (Sum.inr "turn":Key)=some (.int u):=by rfl
local macro_rules | `(tactic| walk_at "kv") => `(tactic| first | exact ad7 | exact aO9 | exact ap7 | exact au0 | rfl)
theorem ad8 {l:Addr}{a t u x:Int}:Fs (Fq l a t u) (Sum.inr "turn":Key) (.int x)=Fq l a t x:=by rfl
theorem aD8 {l:Addr}{a t u x:Int}:Fs (Fq l a t u) (Sum.inr "at":Key) (.int x)=Fq l x t u:=by rfl
theorem R6 {l:Addr}{a t u x:Int}:Fs (Fq l a t u) (Sum.inr "left":Key) (.int x)=Fq l a x u:=by rfl
theorem Feed.same {H H':Hp}{d l:Addr}(h:Feed H d l)(e:Same H H'):Feed H' d l:=let ⟨a,t,u,ns,h1,h2,h3,h4⟩:=h;⟨a,t,u,ns,e _ _ h1,e _ _ h2,h3,h4⟩
theorem Feed.nd {H:Hp}{d l p:Addr}(h:Feed H d l)(hp:H p=none):d≠p:=let ⟨_,_,_,_,h1,_⟩:=h;ne_of_none h1 hp
theorem Feed.lst {H:Hp} {d l b:Addr} {xs:List V} (h:Feed H d l) (hb:H b=some (.lst xs)):b≠d:=let ⟨_,_,_,_,h1,_⟩:=h;ne_of hb h1 (by intro z;cases z)
theorem Feed.free {H H':Hp}{d l p:Addr}(h:Feed H' d l)(e:ExtBut d H H')(hp:H' p=none):H p=none:=by
 cases hq:H p with
 |none=>rfl
 |some o=>
   obtain⟨_,_,_,_,h1,_⟩:=h;have n:p≠d:=λq=>by subst q;rw[hp] at h1;cases h1
   rw[e p o n hq] at hp
   cases hp
theorem Feed.fz {H H':Hp}{d l:Addr}(h:Feed H d l)(e:ExtBut d H H'):Fz H H':=let ⟨_,_,_,_,h1,_⟩:=h;e.fzD h1
theorem Tg {f:Addr}{fd:FuncData}(F:Fun K "_law_draw" "_law_draw" Ev f fd)(T:Gg mg):FnOk P w K mg base CX0 1 f fd ["_law_feed_here","_law_many"] (Gk K):=by
 refine F.ok Fi (λvs H Q E h=>?_) (λcdv A outer s H vs Q E hr h=>?_)
 . obtain⟨d,l,n,rfl,_⟩:=h;rfl
 obtain⟨d,l,n,rfl,⟨a,t,u,ns,hd,hl,h0,h64⟩,hn,hn2,k⟩:=h;have hu:=Cg hr;have hq:=Cf hr;have hld:l≠d:=ne_of hl hd (by intro z;cases z)
 with_reducible refine⟨_,(A3 (Gd hu (pv 0) Ab (Ar (Am (K:=K)) (Ak (A7 (K:=K) hu) (pv 0) Ab (by ac_rfl)) A6) ⋯)
  (A3 (Cq (An (C5 (K:=K) hq) (Ak (A7 (K:=K) hu) (pv 0) Ab (by ac_rfl)) A6 (Ay _)) (A3 (Ad (i:=2) Fi.nd ⋯ (by eq_refl) (Ak (A7 (K:=K) hu) (Ak (A7 (K:=K) hu) (pv 0) Ab (by ac_rfl)) (Ar M3 (Ak (A7 (K:=K) hu) (pv 0) Ab (by ac_rfl)) (Ae (By (K:=K)) ⋯ T.b_len PyProof.Rows.Boot.«len» (A1 (Ak (A7 (K:=K) hu) (pv 0) Ab (by ac_rfl)) A2))) (by ac_rfl)))
  (A3 (Gd hu (pv 0) Ab (Ar (Am (K:=K)) (Ak (A7 (K:=K) hu) (pv 0) Ab (by ac_rfl)) A6) ⋯)
  (A3 (Cq (An aF6 (pv 2) (Ar aC3 A6 A6) (Ay _)) (A3 (Ad (i:=3) Fi.nd ⋯ (by eq_refl) (Ar M3 (Ar Fm (Ar (Am (K:=K)) (Ar M3 (pv 2) A6) (Ar Fm A6 (Ak (A7 (K:=K) hu) (pv 0) Ab (by ac_rfl)))) A6) A6))
  (A3 (Ad (i:=3) Fi.nd ⋯ (by eq_refl) (Ar M3 (Ar Fm (Ar (Am (K:=K)) (Ar L7 (pv 3) A6) (Ar Fm A6 (Ak (A7 (K:=K) hu) (pv 0) Ab (by ac_rfl)))) A6) A6))
  (A5 (At (Ar M3 (Ar L7 (pv 3) A6) (pv 1)))))) Ax)
  (A5 (Gd hu (pv 0) Ab (pv 2) ⋯))))) Ax)
  (A3 (Ad (i:=4) Fi.nd ⋯ (by eq_refl) (Ar M3 (Ak (A7 (K:=K) hu) (pv 0) Ab (by ac_rfl)) (pv 1)))
  (A3 (Gd hu (pv 0) Ab (Ar L7 (Ak (A7 (K:=K) hu) (pv 0) Ab (by ac_rfl)) (pv 1)) ⋯)
  (A5 (At (pv 4))))))),?_⟩
 symm
 refine Jo hd (by show 4<1000;decide) λH1 e1 hd1=>?_;rw[ad8] at hd1;have hl1:H1 l=some (.lst (ns.map V.int)):=e1 _ _ hld hl
 symm
 refine aR4 (λht=>?_) (λht=>?_)
 . symm
   have hlen:(0:Int)<((ns.map V.int).length:Nat):=by rw[A02];omega
   refine i_rI hlen ?_;have hm0:0<=a % (((ns.map V.int).length:Nat):Int):=A3Z _ nofun;have hm1:=A3B a hlen
   obtain⟨c,hc⟩:∃ c,(ns.map V.int)[(a % (((ns.map V.int).length:Nat):Int)).toNat]? = some (V.int c):=by refine⟨ns[(a % (((ns.map V.int).length:Nat):Int)).toNat]'(by rw[A02] at *;omega),?_⟩;rw[A08,A05];rfl
   refine Lo hl1 (by have:=Dl hc;rwa[A54 hm0] at this) ?_
   symm
   refine Jo hd1 (by show 4<1000;decide) λH2 e2 hd2=>?_;rw[aD8] at hd2;have hl2:H2 l=some (.lst (ns.map V.int)):=e2 _ _ hld hl1
   symm
   refine aR4 (λhc1=>?_) (λhc1=>?_)
   . symm
     exact k _ H2 (A3Z _ nofun) (A3B _ hn) (e1.trans e2) ⟨_,_,_,ns,hd2,hl2,h0,h64⟩
   symm
   refine Jo hd2 (by show 4<1000;decide) λH3 e3 hd3=>?_;rw[R6] at hd3;have hl3:H3 l=some (.lst (ns.map V.int)):=e3 _ _ hld hl2
   symm
   refine Jo hd3 (by show 4<1000;decide) λH4 e4 hd4=>?_;rw[R6] at hd4;have hl4:H4 l=some (.lst (ns.map V.int)):=e4 _ _ hld hl3
   symm
   exact k _ H4 (A3Z _ nofun) (A3B _ hn) (((e1.trans e2).trans e3).trans e4) ⟨_,_,_,ns,hd4,hl4,h0,h64⟩
 symm
 refine Jo hd1 (by show 4<1000;decide) λH2 e2 hd2=>?_;rw[R6] at hd2;have hl2:H2 l=some (.lst (ns.map V.int)):=e2 _ _ hld hl1
 symm
 exact k _ H2 (A3Z _ nofun) (A3B _ hn) (e1.trans e2) ⟨_,_,_,ns,hd2,hl2,h0,h64⟩
theorem Yv (ns:List Int)(h:ns.length<=63):∃ ms:List Int,Tp (ns.map V.int) none (some 63)++(List.replicate (if(PyData.list (ns.map PyData.int)).eqv (PyData.list (([]:List Int).map PyData.int))=true then(1:Int) else 0).toNat [V.int 0]).flatten=ms.map V.int/\0<ms.length/\ms.length<=64:=by
 have hc:Tp (ns.map V.int) none (some 63)=ns.map V.int:=by
  unfold Tp
  have e:HT.sIx (ns.map V.int).length (ns.map V.int).length (some 63)=(ns.map V.int).length:=by have:=HT.sIx_nat (ns.map V.int).length (ns.map V.int).length 63;rw[A02] at *;rw[show((63:Nat):Int)=(63:Int) from rfl] at this;rw[this];omega
  rw[HT.sIx_none,e,List.drop_zero,Nat.sub_zero,A11]
 rw[hc]
 cases ns with
 |nil=>exact⟨[0],by simp[PyData.eqv,PyData.eqvAll],by decide,by decide⟩
 |cons n r=>exact⟨n :: r,by simp[PyData.eqv,PyData.eqvAll],by simp,by omega⟩
theorem Sd {f:Addr}{fd:FuncData}(F:Fun K "_law_feed" "_law_feed" Ez f fd)(T:Gg mg):FnOk P w K mg base CX0 1 f fd ["_law_script"] (Iq K):=by
 refine F.ok So (λvs H Q E h=>?_) (λcdv A outer s H vs Q E hr h=>?_)
 . obtain⟨a,ns,rfl,_⟩:=h;rfl
 obtain⟨a,ns,rfl,hS,h63,k⟩:=h;have hu:=Cg hr;have hq:=Cf hr
 with_reducible refine⟨_,(A5 (At (Nk (Gj Ab (Ar (Am (K:=K)) (As (Pj (K:=K)) ⋯ T.b_list PyProof.Rows.Boot.«list» (A1 (Ek (a65 (K:=K)) (pv 0) K3 (Dv A6)) A2)) (Ar Fm (Bf (A1 A6 A2)) (As Sy ⋯ T.b_int PyProof.Rows.Boot.«int» (A1 (Cu (C5 (K:=K) hq) (pv 0) (Bf A2) (Ay _)) A2)))) (Gj Ab A6 (Gj Ab A6 (Gj Ab A6 Ny)))) ⋯ ⋯ ∅ ∅))),?_⟩
 symm
 refine Ru λp H1 hp e1 hp1=>?_
 symm
 have hS1:=e1.seq hS;refine Uc hS1 λq H2 hq2 e2 hq2'=>?_
 symm
 refine ar1 (SqL.of hq2') λr H3 hr3 e3 hr3'=>?_
 symm
 refine Bq ∅ λz H4 hz4 e4 hz4'=>?_
 symm
 refine Bq ∅ λy H5 hy5 e5 hy5'=>?_;refine a70 (Vt (e5.seq (e4.seq (e3.seq (e2.seq hS1))))) (Vt (ns:=[]) (SqL.of hy5')) (W.ke_shaped_ints ns) (W.ke_shaped_ints []) ?_
 symm
 refine an4 (xs:=[V.int 0]) (by walk_at "lk") ?_ ?_ λx H6 hx6 e6 hx6'=>?_
 . split<;>omega
 . split<;>decide
 refine Jq (xs:=Tp (ns.map V.int) none (some 63)) (by walk_at "lk") hx6' ?_ λv H7 hv7 e7 hv7'=>?_
 . obtain⟨ms,e,h1,h2⟩:=Yv ns h63;rw[<- A0T,e,A02];exact A0L h2 ∅
 symm
 refine Oa [(Sum.inr "cells",.ref v),(Sum.inr "at",.int 0),(Sum.inr "left",.int 0),(Sum.inr "turn",.int 0)] (by walk_at "lk") (by rfl) (by show 4<=15;decide) λH8 e8 h8=>?_;have en:H8 p=some (.dK (Fq v 0 0 0)):=h8;refine k p v H8 hp ?_ ?_ ⟨0,0,0,?_⟩
 . exact e1.free (e2.free (e3.free (e4.free (e5.free (e6.free hv7)))))
 . exact λb o hb=>e8 b o (ne_of_none hb hp) (e7 _ _ (e6 _ _ (e5 _ _ (e4 _ _ (e3 _ _ (e2 _ _ (e1 _ _ hb)))))))
 obtain⟨ms,e,h1,h2⟩:=Yv ns h63;rw[e] at hv7';exact⟨ms,en,by walk_at "lk",h1,h2⟩
def Ic (K:W.Frag):Sp:=λvs H Q _=>∃ d l n,vs=[.ref d,.int n]/\Feed H d l/\0<=n/\n<=10/\∀ p ns H',H p=none->ExtBut d H H'->Feed H' d l->H' p=some (.lst (ns.map V.str))->Names ns->ns.length=n.toNat->Q (.ref p) H'
def MN (H:Hp)(d l:Addr)(n st way sz at':Int):L2.St->Hp->Prop:=fun σ' H'=>∃ p ns x8 x9,σ'=[some (V.ref d),some (.int n),some (.str LL),some (.int st),some (.int way),some (.int (1+sz)),some (.int at'),some (.ref p),x8,x9,none]/\H p=none/\ExtBut d H H'/\Feed H' d l/\H' p=some (.lst (ns.map V.str))/\Names ns/\ns.length=10
theorem Qi {f:Addr}{fd:FuncData}(F:Fun K "_law_names" "_law_names" Ea f fd)(T:Gg mg)(B5:Fnd P w K mg base 1 "_law_draw" ["_law_feed_here","_law_many"] (Gk K)):FnOk P w K mg base CX0 2 f fd ["_law_feed_here","_law_many"] (Ic K):=by
 refine F.ok Aq (λvs H Q E h=>?_) (λcdv A outer s H vs Q E hr h=>?_)
 . obtain⟨d,l,n,rfl,_⟩:=h;rfl
 obtain⟨d,l,n,rfl,hF,hn0,hn1,k⟩:=h;have hu:=Cg hr;have hq:=Cf hr
 with_reducible refine⟨_,(A3 (Ad (i:=2) Aq.nd ⋯ (by with_unfolding_all exact A3W rfl) (Ar Fm Ab A6))
  (A3 (Ad (i:=3) Aq.nd ⋯ (by with_unfolding_all exact A3W rfl) (Ch B5 (hr.mono ∅) ⋯ (A1 (pv 0) (A1 A6 A2))))
  (A3 (Ad (i:=4) Aq.nd ⋯ (by eq_refl) (Ch B5 (hr.mono ∅) ⋯ (A1 (pv 0) (A1 A6 A2))))
  (A3 (Ad (i:=5) Aq.nd ⋯ (by eq_refl) (Ar (Am (K:=K)) A6 (Ch B5 (hr.mono ∅) ⋯ (A1 (pv 0) (A1 A6 A2)))))
  (A3 (Ad (i:=6) Aq.nd ⋯ (by eq_refl) (Ch B5 (hr.mono ∅) ⋯ (A1 (pv 0) (A1 (pv 5) A2))))
  (A3 (Ad (i:=7) Aq.nd ⋯ (by eq_refl) (Bf (A1 Ab (A1 Ab (A1 Ab (A1 Ab (A1 Ab (A1 Ab (A1 Ab (A1 Ab (A1 Ab (A1 Ab A2))))))))))))
  (A3 (Cq (An (C5 (K:=K) hq) (pv 4) A6 (Ay _)) (A5 (Ad (i:=7) Aq.nd ⋯ (by eq_refl) (Ar (Am (K:=K)) (Dm ["_law_k"] ["_law_letters","_law_start"] [2,3] ⋯ ⋯ ⋯ (Hh ⋯ T.b_range (A1 A6 A2)) (λ_ _ _ _=>(Al (i:=0) (by with_unfolding_all (show(["_law_k","_law_letters","_law_start"]:List Str).Nodup;decide +kernel)) ⋯ (by eq_refl))) (Cd ∅) (λ_ _ _ _=>Dx) (λ_ _ _ _=>(Ek (a65 (K:=K)) (pv 1) (Dv (pv 2)) (Dv (Ar (Am (K:=K)) (Ar (Am (K:=K)) (pv 2) A6) (pv 0)))))) (Bf (A1 (Ak (A7 (K:=K) hu) (pv 2) (Ar (Am (K:=K)) (pv 3) A6) (by ac_rfl)) (A1 (Ak (A7 (K:=K) hu) (pv 2) (Ar (Am (K:=K)) (pv 3) A6) (by ac_rfl)) A2)))))) Ax)
  (A3 (Cq (An (C5 (K:=K) hq) (pv 4) A6 (Ay _)) (A3 (Ad (i:=8) Aq.nd ⋯ (by with_unfolding_all exact A3W rfl) (Ek (a65 (K:=K)) (pv 2) (Dv (pv 3)) (Dv (Ar (Am (K:=K)) (pv 3) (pv 6)))))
  (A3 (Ad (i:=9) Aq.nd ⋯ (by with_unfolding_all exact A3W rfl) (Ek (a65 (K:=K)) (pv 2) (Dv (Ar (Am (K:=K)) (Ar (Am (K:=K)) (pv 3) (pv 6)) A6)) (Dv (Ar (Am (K:=K)) (pv 3) (pv 5)))))
  (A5 (Ls (i:=7) ["_law_k"] ["_law_head","_law_letters","_law_start","_law_tail"] [8,2,3,9] ⋯ ⋯ ⋯ Aq.nd ⋯ ⋯ (Hh ⋯ T.b_range (A1 A6 A2)) (λ_ _ _ _=>(Al (i:=0) (by with_unfolding_all (show(["_law_k","_law_head","_law_letters","_law_start","_law_tail"]:List Str).Nodup;decide +kernel)) ⋯ (by eq_refl))) (Cd ∅) (λ_ _ _ _=>Dx) (λ_ _ _ _=>(Ar (Am (K:=K)) (Ar (Am (K:=K)) (pv 1) (Ak (A7 (K:=K) hu) (pv 2) (Ar (Am (K:=K)) (pv 3) (Ar M3 (Ar Fm A6 (pv 0)) A6)) (by ac_rfl))) (pv 4))))))) Ax)
  (A3 (Cq (An (C5 (K:=K) hq) (pv 4) A6 (Ay _)) (A5 (Ls (i:=7) ["_law_k"] ["_law_letters","_law_start"] [2,3] ⋯ ⋯ ⋯ Aq.nd ⋯ ⋯ (Hh ⋯ T.b_range (A1 A6 A2)) (λ_ _ _ _=>(Al (i:=0) (by with_unfolding_all (show(["_law_k","_law_letters","_law_start"]:List Str).Nodup;decide +kernel)) ⋯ (by eq_refl))) (Cd ∅) (λ_ _ _ _=>Dx) (λ_ _ _ _=>(Ek (a65 (K:=K)) (pv 1) (Dv (Ar (Am (K:=K)) (pv 2) (pv 0))) (Dv (Ar (Am (K:=K)) (Ar (Am (K:=K)) (Ar (Am (K:=K)) (pv 2) (pv 0)) A6) (Ar M3 (Ar Fm A6 (pv 0)) A6))))))) Ax)
  (A3 (Ad (i:=10) Aq.nd ⋯ (by eq_refl) (Ch B5 (hr.mono ∅) ⋯ (A1 (pv 0) (A1 A6 A2))))
  (A3 (Ad (i:=7) Aq.nd ⋯ (by eq_refl) (Ar (Am (K:=K)) (Ek (a65 (K:=K)) (pv 7) (Dv (pv 10)) K3) (Ek (a65 (K:=K)) (pv 7) K3 (Dv (pv 10)))))
  (A5 (At (Rx (Ek (a65 (K:=K)) (pv 7) K3 (Dv (pv 1))) (Ak (A7 (K:=K) hu) (Bf (A1 A6 (A1 (af5 Vx A6) A2))) (Ch B5 (hr.mono ∅) ⋯ (A1 (pv 0) (A1 A6 A2))) (by ac_rfl)))))))))))))))),?_⟩
 symm
 refine an0 ∅ ?_;rw[aB5]
 symm
 refine⟨d,l,_,rfl,hF,by omega,by omega,λst H1 hs0 hs1 e1 hF1=>?_⟩
 symm
 refine⟨d,l,_,rfl,hF1,by omega,by omega,λway H2 hw0 hw1 e2 hF2=>?_⟩
 symm
 refine⟨d,l,_,rfl,hF2,by omega,by omega,λsz H3 hz0 hz1 e3 hF3=>?_⟩
 symm
 refine⟨d,l,_,rfl,hF3,by omega,by omega,λat' H4 ha0 ha1 e4 hF4=>?_⟩
 symm
 refine Bq ∅ λp5 H5 hp5 e5 h5=>?_;walk_at "rq";have fr4:ExtBut d H H4:=by walk_at "fr"
 have hF5:Feed H5 d l:=by walk_at "fd"
 with_reducible refine Tv (MN H d l n st way sz at') (λN hN=>?_) (fun σ1 H6 hM=>?_)
 . walk_at "rq";refine Ig (λhw=>?_) (λhw=>?_)
   . walk_at "rq";refine Pz nofun ?_;refine Mj Eu (fI λk=>.str (Txt.slice LL (some st) (some (st+1+k)))) (by simp) (λ_ _=>trivial) (λi x H6 R hx e6 hR=>?_) (λp6 H6 hp6 e6 h6=>?_)
     . obtain⟨rfl,hi⟩:=Lu hx;walk_at "rq";exact hR
     rw[Uz (G:=λk=>txt (Oz st.toNat (st.toNat+1+k))) (λk hk=>by
      have e:=Wd (i:=st) (j:=st+1+(0+(k:Int))) hs0 nofun (by have:((8:Int)).toNat=8:=rfl;omega);have e2:(st+1+(0+(k:Int))).toNat=st.toNat+1+k:=by omega
      rw[e2] at e;rw[e])] at h6
     obtain⟨c9,hc9,e9⟩:=aq4 (i:=st+9) nofun nofun;obtain⟨c10,hc10,e10⟩:=aq4 (i:=st+10) nofun nofun;walk_at "rq";refine ao6 Tx hc9 ?_;walk_at "rq";refine ao6 Tx hc10 ?_;walk_at "rq";refine Bq (A8 (by simp)) λp7 H7 hp7 e7 h7=>?_;refine Jq (by walk_at "lk") h7 (by simp[sizeLine_eq]) λp8 H8 hp8 e8 h8=>?_;walk_at "rq";have f5:ExtBut d H H5:=by walk_at "fr"
     refine hN _ _ ⟨p8,(nm0 st.toNat).map txt,none,none,rfl,Feed.free (l:=l) (H':=H7) (by walk_at "fd") (by walk_at "fr") hp8,by walk_at "fr",by walk_at "fd",?_,aD4 nofun,by simp[nm0]⟩;rw[h8,e9,e10];have q9:(st+9).toNat=st.toNat+9:=by omega
     have q10:(st+10).toNat=st.toNat+10:=by omega
     rw[q9,q10];simp[nm0,Function.comp_def]
   walk_at "rq";refine hN _ _ ⟨p5,nm3,none,none,rfl,hF4.free fr4 hp5,by walk_at "fr",hF5,h5,aF0,rfl⟩
 obtain⟨p,ns,x8,x9,rfl,hp,e6,hF6,h6,hN6,hl6⟩:=hM
 with_reducible refine Tv (MN H d l n st way sz at') (λN hN=>?_) (fun σ1 H7 hM=>?_)
 . walk_at "rq";refine Ig (λhw=>?_) (λhw=>?_)
   . walk_at "rq";refine Pz nofun ?_;have c1:=Wd (i:=st) (j:=st+at') hs0 nofun nofun;have c2:=Wd (i:=st+at'+1) (j:=st+(1+sz)) nofun nofun nofun;rw[c1,c2];refine Mj Eu (fI λk=>.str (txt (Oz st.toNat (st+at').toNat)++txt (Ro (st+5*k % 26).toNat)++txt (Oz (st+at'+1).toNat (st+(1+sz)).toNat))) (by simp) (λ_ _=>trivial) (λi x H8 R hx e8 hR=>?_) (λp8 H8 hp8 e8 h8=>?_)
     . obtain⟨rfl,hi⟩:=Lu hx;have hm0:=A3Z (5*(0+(i:Int))) (show(26:Int)≠0 by decide);have hm1:=A3B (5*(0+(i:Int))) (show(0:Int)<26 by decide);obtain⟨c,hc,ec⟩:=aq4 (i:=st+5*(0+(i:Int)) % 26) nofun nofun;walk_at "rq";refine ao6 Tx hc ?_;rw[ec];have l1:(txt (Oz st.toNat (st+at').toNat)).length<=52:=by show(Oz _ _).toArray.size<=_;unfold Oz;simp[Lj];omega
       have l2:(txt (Oz (st+at'+1).toNat (st+(1+sz)).toNat)).length<=52:=by show(Oz _ _).toArray.size<=_;unfold Oz;simp[Lj];omega
       have l3:(txt (Ro (st+5*(0+(i:Int)) % 26).toNat)).length<=52:=by show(Ro _).toArray.size<=_;unfold Ro;simp[Lj];omega
       refine i_addS (A8 nofun) ?_;have l4:(txt (Oz st.toNat (st+at').toNat)++txt (Ro (st+5*(0+(i:Int)) % 26).toNat)).length<=104:=by rw[Str.length_append];omega
       walk_at "rq";exact hR
     rw[Uz (G:=λk=>txt (Oz st.toNat (st.toNat+at'.toNat)++Ro (st.toNat+5*k % 26)++Oz (st.toNat+at'.toNat+1) (st.toNat+(1+sz).toNat))) (λk hk=>by
      have q1:(st+at').toNat=st.toNat+at'.toNat:=by omega
      have q2:(st+5*(0+(k:Int)) % 26).toNat=st.toNat+5*k % 26:=by omega
      have q3:(st+at'+1).toNat=st.toNat+at'.toNat+1:=by omega
      have q4:(st+(1+sz)).toNat=st.toNat+(1+sz).toNat:=by omega
      rw[q1,q2,q3,q4,Yc,Yc])] at h8
     walk_at "rq";refine hN _ _ ⟨p8,(nm1 st.toNat (1+sz).toNat at'.toNat).map txt,_,_,rfl,hF6.free e6 hp8,by walk_at "fr",by walk_at "fd",?_,aF2 nofun nofun nofun,by simp[nm1]⟩;rw[h8];simp[nm1,Function.comp_def]
   walk_at "rq";exact hN _ _ ⟨p,ns,x8,x9,rfl,hp,e6,hF6,h6,hN6,hl6⟩
 obtain⟨p',ns',x8',x9',rfl,hp',e7,hF7,h7,hN7,hl7⟩:=hM
 with_reducible refine Tv (MN H d l n st way sz at') (λN hN=>?_) (fun σ1 H8 hM=>?_)
 . walk_at "rq";refine Ig (λhw=>?_) (λhw=>?_)
   . walk_at "rq";refine Pz nofun ?_;refine Mj Eu (fI λk=>.str (Txt.slice LL (some (st+k)) (some (st+k+1+3*k % 8)))) (by simp) (λ_ _=>trivial) (λi x H8 R hx e8 hR=>?_) (λp8 H8 hp8 e8 h8=>?_)
     . obtain⟨rfl,hi⟩:=Lu hx;walk_at "rq";exact hR
     rw[Uz (G:=λk=>txt (Oz (st.toNat+k) (st.toNat+k+1+3*k % 8))) (λk hk=>by
      have h10:((10:Int)).toNat=10:=rfl;have e:=Wd (i:=st+(0+(k:Int))) (j:=st+(0+(k:Int))+1+3*(0+(k:Int)) % 8) nofun nofun nofun;have q1:(st+(0+(k:Int))).toNat=st.toNat+k:=by omega
      have q2:(st+(0+(k:Int))+1+3*(0+(k:Int)) % 8).toNat=st.toNat+k+1+3*k % 8:=by omega
      rw[q1,q2] at e;rw[e])] at h8
     walk_at "rq";refine hN _ _ ⟨p8,(nm2 st.toNat).map txt,_,_,rfl,hF7.free e7 hp8,by walk_at "fr",by walk_at "fd",?_,aD2 nofun,by simp[nm2]⟩;rw[h8];simp[nm2,Function.comp_def]
   walk_at "rq";exact hN _ _ ⟨p',ns',x8',x9',rfl,hp',e7,hF7,h7,hN7,hl7⟩
 obtain⟨p2,ms,y8,y9,rfl,hp2,e8,hF8,h8,hN8,hl8⟩:=hM
 symm
 refine⟨d,l,_,rfl,hF8,by omega,by omega,λtn H9 ht0 ht1 e9 hF9=>?_⟩;have nd2:p2≠d:=hF8.lst h8
 symm
 have h9:H9 p2=some (.lst (ms.map V.str)):=e9 _ _ nd2 h8;refine Uc (SqL.of h9) λq1 H10 hq1 e10 h10=>?_
 symm
 refine Uc (SqL.of (show H10 p2=some (.lst (ms.map V.str)) by walk_at "lk")) λq2 H11 hq2 e11 h11=>?_
 symm
 rw[Rj ht0 (by rw[A02];omega)] at h10;rw[Qo ht0] at h11;refine Jq (by walk_at "lk") h11 (A8 (by simp;omega)) λq3 H12 hq3 e12 h12=>?_
 symm
 rw[<- List.map_drop,<- List.map_take,<- A16] at h12;refine Uc (SqL.of h12) λq4 H13 hq4 e13 h13=>?_
 symm
 rw[Qo hn0,<- List.map_take] at h13;refine Bq ∅ λq5 H14 hq5 e14 h14=>?_
 symm
 refine⟨d,l,2,rfl,by walk_at "fd",by omega,by omega,λr H15 hr0 hr1 e15 hF15=>?_⟩;have hq5d:q5≠d:=Ne.symm (Feed.nd (H:=H13) (l:=l) (by walk_at "fd") hq5);have hq4d:q4≠d:=Ne.symm (Feed.nd (H:=H12) (l:=l) (by walk_at "fd") hq4);have h15:H15 q4=some (.lst (((ms.drop tn.toNat++ms.take tn.toNat).take n.toNat).map V.str)):=e15 _ _ hq4d (by walk_at "lk");have g15:H15 q5=some (.lst [V.int 1,V.int (-1)]):=e15 _ _ hq5d h14
 have hstep:∃ k,atI [V.int 1,V.int (-1)] r=some (V.int k)/\(k=1\/k = -1):=by
  rcases(by omega:r=0\/r=1) with rfl|rfl
  . exact⟨1,rfl,.inl rfl⟩
  exact⟨-1,rfl,.inr rfl⟩
 obtain⟨kk,hk1,hk2⟩:=hstep;refine Lo g15 hk1 ?_;refine aE2 (SqL.of h15) hk2 λq6 H16 hq6 e16 h16=>?_;obtain⟨os,eo,ho1,ho2⟩:=Wv (k:=kk) (hN8.turn tn.toNat n.toNat);rw[eo] at h16;have fr15:ExtBut d H H15:=by walk_at "fr"
 refine k q6 os H16 (hF15.free fr15 hq6) (by walk_at "fr") (by walk_at "fd") h16 ho1 ?_;rw[ho2,A14,A0T,A1M,A14];omega
local macro_rules | `(tactic| walk_at "rq1") => `(tactic| with_reducible first | refine aI8 ?_ | refine au1 ?_ | refine an2 ?_ | refine ar7 ?_)
theorem aL5 {ws:List V}{a:Str}(h:ws.length=[a].length):∃ v,ws=[v]:=by
 match ws,h with
 | [v],_=>exact⟨v,rfl⟩
theorem aS4 {ws:List V}{a b:Str}(h:ws.length=[a,b].length):∃ v u,ws=[v,u]:=by
 match ws,h with
 | [v,u],_=>exact⟨v,u,rfl⟩
theorem Pc {f:Addr}{fd:FuncData}(F:Fun K "__init__" "NoName.__init__" Db f fd)(T:Gg mg){C_HalfError:Addr}{C_NoName:Addr}(x_HalfError:Ap K mg C_HalfError C_HalfError)(x_NoName:Bv K mg C_NoName C_HalfError):FnOk P w K mg base CX0 1 f fd ["self","name"] (spX C_NoName ["name"]):=by
 refine F.ok Pe (λvs H Q E h=>?_) (λcdv A outer s H vs Q E hr h=>?_)
 . obtain⟨a,ws,rfl,hl,_⟩:=h;obtain⟨v,rfl⟩:=aL5 hl;rfl
 obtain⟨a,ws,rfl,hl,ha,k⟩:=h;obtain⟨v,rfl⟩:=aL5 hl
 with_reducible refine⟨_,(A5 (Mf (K:=K) (pv 0) (pv 1) ⋯)),?_⟩
 symm
 refine a03 ha x_NoName.xc x_NoName.n_name λdx H1 h1 h2 h3 h4 h5=>?_
 symm
 exact k dx H1 h1 h2 h3 h4 h5
theorem Mb {f:Addr}{fd:FuncData}(F:Fun K "__init__" "NoSaying.__init__" C8 f fd)(T:Gg mg){C_HalfError:Addr}{C_NoSaying:Addr}(x_HalfError:Ap K mg C_HalfError C_HalfError)(x_NoSaying:Ef K mg C_NoSaying C_HalfError):FnOk P w K mg base CX0 1 f fd ["self","number"] (spX C_NoSaying ["number"]):=by
 refine F.ok M8 (λvs H Q E h=>?_) (λcdv A outer s H vs Q E hr h=>?_)
 . obtain⟨a,ws,rfl,hl,_⟩:=h;obtain⟨v,rfl⟩:=aL5 hl;rfl
 obtain⟨a,ws,rfl,hl,ha,k⟩:=h;obtain⟨v,rfl⟩:=aL5 hl
 with_reducible refine⟨_,(A5 (Mf (K:=K) (pv 0) (pv 1) ⋯)),?_⟩
 symm
 refine a03 ha x_NoSaying.xc x_NoSaying.n_number λdx H1 h1 h2 h3 h4 h5=>?_
 symm
 exact k dx H1 h1 h2 h3 h4 h5
theorem Oo {f:Addr}{fd:FuncData}(F:Fun K "__init__" "NoHalf.__init__" Df f fd)(T:Gg mg){C_HalfError:Addr}{C_NoHalf:Addr}(x_HalfError:Ap K mg C_HalfError C_HalfError)(x_NoHalf:Hg K mg C_NoHalf C_HalfError):FnOk P w K mg base CX0 1 f fd ["self","word","number"] (spX C_NoHalf ["word","number"]):=by
 refine F.ok Oi (λvs H Q E h=>?_) (λcdv A outer s H vs Q E hr h=>?_)
 . obtain⟨a,ws,rfl,hl,_⟩:=h;obtain⟨v,u,rfl⟩:=aS4 hl;rfl
 obtain⟨a,ws,rfl,hl,ha,k⟩:=h;obtain⟨v,u,rfl⟩:=aS4 hl
 with_reducible refine⟨_,(A3 (Mf (K:=K) (pv 0) (pv 1) ⋯)
  (A5 (Mf (K:=K) (pv 0) (pv 2) ⋯))),?_⟩
 symm
 refine a03 ha x_NoHalf.xc x_NoHalf.n_word λdx H1 h1 h2 h3 h4 h5=>?_
 symm
 refine aA4 h4 h5 x_NoHalf.xc x_NoHalf.n_number (by simp) λH2 g1 g2=>?_
 symm
 exact k dx H2 h1 h2 (λb b1 b2=>(g1 b b2).trans (h3 b b1 b2)) ((g1 a (Ne.symm h2)).trans h4) g2
def Dn (K:W.Frag):Sp:=λvs H Q _=>∃ v ns ps,vs=[v]/\Is K H (hfD ns ps) v/\Pa ns ps/\∀ r as H',H r=none->(∀ a∈as,H a=none)->Same H H'->Tab H' r ns as (Way ps)->Q (.ref r) H'
theorem Ox {f:Addr}{fd:FuncData}(F:Fun K "behind_each" "behind_each" Cw f fd)(T:Gg mg):FnOk P w K mg base CX0 1 f fd ["half"] (Dn K):=by
 refine F.ok Cm (λvs H Q E h=>?_) (λcdv A outer s H vs Q E hr h=>?_)
 . obtain⟨v,ns,ps,rfl,_⟩:=h;rfl
 obtain⟨v,ns,ps,rfl,hI,hW,k⟩:=h;have hu:=Cg hr;have hq:=Cf hr;have hn:=hW.nd;have hfew:=hW.few
 with_reducible refine⟨_,(A3 (Ad (i:=1) Cm.nd ⋯ (by eq_refl) (Ak (A7 (K:=K) hu) (pv 0) A6 (by ac_rfl)))
  (A3 (Ad (i:=2) Cm.nd ⋯ (by eq_refl) (As (Lw (K:=K) hr.hd) ⋯ T.b_dict PyProof.Rows.Boot.«dict» (A1 (Dm ["name"] [] [] ⋯ ⋯ ⋯ (B3 (K:=K) hu (pv 1)) (λ_ _ _ _=>(Al (i:=0) (by with_unfolding_all (show(["name"]:List Str).Nodup;decide +kernel)) ⋯ (by eq_refl))) (Cd ∅) (λ_ _ _ _=>Dx) (λ_ _ _ _=>(B0 (A1 (pv 0) (A1 Ml A2))))) A2)))
  (A3 (Eo A17 ⋯ (B3 (K:=K) hu (Ak (A7 (K:=K) hu) (pv 0) A6 (by ac_rfl))) (Al (i:=3) Cm.nd ⋯ (by eq_refl))
  (A5 (Gd hu (Ak (A7 (K:=K) hu) (pv 2) (Ak (A7 (K:=K) hu) (pv 3) A6 (by ac_rfl)) (by ac_rfl)) (Ak (A7 (K:=K) hu) (pv 3) A6 (by ac_rfl)) Ku ⋯)))
  (A3 (Eo A17 ⋯ (B3 (K:=K) hu (pv 1)) (Al (i:=4) Cm.nd ⋯ (by eq_refl))
  (A5 (Eo A17 ⋯ (B3 (K:=K) hu (pv 1)) (Al (i:=5) Cm.nd ⋯ (by eq_refl))
  (A5 (Cq (An (Pq (K:=K) hq) (pv 4) (Ak (A7 (K:=K) hu) (pv 2) (pv 5) (by ac_rfl)) ⋯) (A5 (Bs (Eh (K:=K) A37 PySem.F.slot_dict_update PySem.F.type_dict_update (mm Xj) (Ak (A7 (K:=K) hu) (pv 2) (pv 5) (by ac_rfl)) (A1 (Ak (A7 (K:=K) hu) (pv 2) (pv 4) (by ac_rfl)) A2)))) Ax)))))
  (A5 (At (pv 2))))))),?_⟩
 symm
 refine Kk hI λnv hN=>?_
 symm
 obtain⟨na,rfl,hS⟩:=hN.nm;refine Nf hS ?_;refine Lm (Er (xs:=ns.map V.str)) (λp i acc H1=>Same H H1/\∃ as:List Addr,as.length=i/\as.Nodup/\(∀ a∈as,H1 a=some (.dK [])/\H a=none)/\PrsK K H1 (Jh (ns.take i) as) acc) (λp H' hp e h=>⟨e,[],rfl,by simp,λ_ h=>(by cases h),by rfl⟩) (λp i acc H1 hP=>hP.1.seqT hS) (λp i x acc H1 hp hx hi hl ha hP=>?_) λp acc H1 hp ha hl hP=>?_
 . obtain ⟨e1,as,hal,had,haf,hpr⟩:=hP;rw[A08] at hx
   cases hz:ns[i]? with
   |none=>rw[hz] at hx;cases hx
   |some z=>
     rw[hz] at hx
     cases hx;have hin:i<ns.length:=(A00.mp hz).1
     symm
     refine Wf λb H2 hb2 e2 h2=>?_
     symm
     refine B7 (A8 (by simp)) λt H3 ht3 e3 h3=>?_;have h3p:H3 p=some (.lst acc):=e3 _ _ (e2 _ _ ha);refine Pw (by rw[A02];omega) hi hl h3p λH4 e4 h4=>?_;have hbp:b≠p:=Ne.symm (ne_of_none ha hb2);refine⟨by walk_at "sm",as++[b],by simp[hal],?_,λa ha'=>?_,?_⟩
     . rw[A1S];refine⟨had,by simp,λa ha1 c hc e=>?_⟩;have:c=b:=by simpa using hc
       subst this;subst e;have:=(haf _ ha1).1;rw[hb2] at this
       cases this
     . rcases A0G.mp ha' with ha'|ha'
       . obtain⟨q1,q2⟩:=haf a ha';exact⟨e4 _ _ (ne_of q1 ha (by intro z;cases z)) (e3 _ _ (e2 _ _ q1)),q2⟩
       have:a=b:=by simpa using ha'
       subst this;exact⟨e4 _ _ hbp (e3 _ _ h2),e1.free hb2⟩
     have ht:ns.take (i+1)=ns.take i++[z]:=by rw[A0S,hz];rfl
     have hlen:(ns.take i).length=as.length:=by rw[A14,hal];omega
     rw[ht,R8 hlen];have fz4:=e4.fzL h3p;exact PrsK.snoc (kv:=(Sum.inr z,V.ref b)) (fz4.seq (SqT.of h3)) (PrsK.fz ((e2.fz.trans e3.fz).trans fz4) hpr)
 obtain⟨e1,as,hal,had,haf,hpr⟩:=hP;rw[A02] at hal;rw[A02,A11] at hpr
 symm
 refine Z0 ha hpr (by unfold Jh;rw[List.length_map,List.length_zip];omega) λr H2 hr2 e2 h2=>?_;rw[Kz _ _ (Qe hn) (λ_ _ _ h=>by cases h),A4N] at h2;have hr0:H r=none:=e1.free hr2
 have hra:r∉as:=λhm=>by
  have:=(haf r hm).1;rw[hr2] at this
  cases this
 have hT0:Tab H2 r ns as (λz y=>(z,y)∈ps.take 0):=⟨hal,had,hra,h2,λi z a hz ha'=>⟨[],e2 _ _ (haf a (List.mem_of_getElem? ha')).1,by simp,λ_ h=>(by cases h),λy=>by simp⟩⟩
 symm
 refine am3 (hI.hf_fz (by walk_at "fz")) λpv hP2=>?_
 refine aH8 hP2 (λi σ H3=>∃ x3,σ=[some v,some (.ref na),some (.ref r),x3,none,none]/\Same H H3/\Fz H2 H3/\Tab H3 r ns as (λz y=>(z,y)∈ps.take i))
  ⟨none,rfl,by walk_at "sm",.refl _,hT0⟩ (λi σ' H' hP=>hP.choose_spec.2.2.1) (λi pr w σ' H3 hpr hIp hP=>?_) (fun σ' H3 hP=>?_)
 . obtain⟨x3,rfl,e3,fz3,hT⟩:=hP;have hpm:=hW.mem pr (A04 hpr);obtain⟨j,a,hj,haj⟩:=hT.at hpm.1;obtain⟨ks,hk1,hk2,hk3,hk4⟩:=hT.row j _ a hj haj;have hkl:ks.length<=ns.length:=Cc hk2 hk3
   symm
   refine Vg hIp ?_;refine Qy hT hn hj haj ?_
   symm
   refine Pf hIp ?_;refine Jo hk1 (by rw[Ug];omega) λH4 e4 h4=>?_;rw[a69] at h4
   symm
   have ha0:H a=none:=(haf a (A04 haj)).2;refine⟨_,rfl,by walk_at "sm",fz3.trans (e4.fzD hk1),hT.put e4 hn hj haj h4 (Qb hk2) (λy hy=>?_) (λy=>?_) (λz hz hzx y=>?_)⟩
   . rcases mem_addK.mp hy with hy|rfl
     . exact hk3 y hy
     exact hpm.2
   . rw[mem_addK,hk4,A0S,hpr,A0G];constructor
     . rintro(h|rfl)
       . exact .inl h
       exact .inr (by simp)
     rintro(h|h)
     . exact .inl h
     right
     have:(pr.1,y)=pr:=by simpa using h
     rw[<- this]
   rw[A0S,hpr,A0G];constructor
   . exact .inl
   rintro(h|h)
   . exact h
   have:(z,y)=pr:=by simpa using h
   exact absurd (by rw[<- this]) hzx
 obtain⟨x3,rfl,e3,fz3,hT⟩:=hP;rw[A11] at hT;have hW0:War ns ps [] (λz y=>(z,y)∈ps):=⟨λz y h=>.one h,λz y h=>h,λm hm=>by cases hm⟩
 symm
 have hN3:Is K H3 (nmD ns) (.ref na):=hN.nm_fz e3.fz
 refine Pk hN3 (λi σ H4=>∃ x4 x5 R,σ=[some v,some (.ref na),some (.ref r),x3,x4,x5]/\Same H H4/\Fz H3 H4/\Tab H4 r ns as R/\War ns ps (ns.take i) R)
  ⟨_,_,_,rfl,e3,.refl _,hT,hW0⟩ (λi σ' H' hP=>?_) (λi mid σ' H4 hmid hP=>?_) (fun σ' H4 hP=>?_)
 . obtain⟨_,_,_,_,_,fz,_⟩:=hP;exact fz
 . obtain⟨x4,x5,R,rfl,e4,fz4,hT4,hR⟩:=hP;obtain⟨jm,am,hjm,ham⟩:=hT4.at (A04 hmid);have hN4:Is K H4 (nmD ns) (.ref na):=hN3.nm_fz fz4
   symm
   refine Pk hN4 (λj σ H5=>∃ x5,σ=[some v,some (.ref na),some (.ref r),x3,some (.str mid),x5]/\Same H H5/\Fz H4 H5/\Tab H5 r ns as (ah2 R mid (ns.take j)))
    ⟨_,rfl,e4,.refl _,hT4.congr λz _ y=>⟨.inl,λh=>h.elim (λq=>q) λq=>absurd q.1 (by simp)⟩⟩ (λi σ' H' hP=>hP.choose_spec.2.2.1) (λj nm σ' H5 hnm hP=>?_) (fun σ' H5 hP=>?_)
   . obtain⟨x5',rfl,e5,fz5,hT5⟩:=hP;obtain⟨jn,an,hjn,han⟩:=hT5.at (A04 hnm);obtain⟨ks,hk1,hk2,hk3,hk4⟩:=hT5.row jn nm an hjn han;obtain⟨ms,hm1,hm2,hm3,hm4⟩:=hT5.row jm mid am hjm ham;have hkl:ks.length<=ns.length:=Cc hk2 hk3;have hml:ms.length<=ns.length:=Cc hm2 hm3;have htj:ns.take (j+1)=ns.take j++[nm]:=by rw[A0S,hnm];rfl
     have hin:mid∈ks↔R nm mid:=(hk4 mid).trans ⟨λh=>h.elim (λq=>q) λq=>q.2.1,.inl⟩;have hmid2:∀ y,y∈ms↔R mid y:=λy=>(hm4 y).trans ⟨λh=>h.elim (λq=>q) λq=>q.2.2,.inl⟩
     have hother:∀ z∈ns,z≠nm->∀ y,ah2 R mid (ns.take j) z y↔ah2 R mid (ns.take (j+1)) z y:=λz _ hz y=>by unfold ah2;rw[htj,A0G,A29];simp[hz]
     symm
     refine Qy hT5 hn hjn han ?_;refine Rf hk1 ?_
     symm
     refine Ig (λhc=>?_) (λhc=>?_)
     . have hRn:=hin.mp hc
       by_cases hne:nm=mid
       . subst hne
         have hji:jn=jm:=by obtain⟨p1,p2⟩:=A00.mp hjn;obtain⟨q1,q2⟩:=A00.mp hjm;exact(A1G hn).mp (p2.trans q2.symm)
         subst hji;rw[han] at ham
         cases ham
         symm
         refine Qy hT5 hn hjn han ?_;refine ao5 hk1 ?_
         symm
         refine Qy hT5 hn hjn han ?_
         symm
         refine aE8 hk1 ?_
         symm
         refine⟨_,rfl,e5,fz5,hT5.congr λz hz y=>?_⟩
         by_cases hzn:z=nm
         . subst hzn;unfold ah2;constructor
           . exact λh=>.inl (h.elim (λq=>q) λq=>q.2.2)
           exact λh=>.inl (h.elim (λq=>q) λq=>q.2.2)
         exact hother z hz hzn y
       have hane:an≠am:=λq=>by subst q;obtain⟨p1,p2⟩:=A00.mp han;obtain⟨q1,q2⟩:=A00.mp ham;have:=(A1G hT5.nd).mp (p2.trans q2.symm);subst this;rw[hjn] at hjm;exact hne (A0O hjm)
       symm
       refine Qy hT5 hn hjn han ?_;refine ao5 hk1 ?_
       symm
       refine Qy hT5 hn hjm ham ?_
       symm
       refine aG4 hk1 hm1 hane nofun λH6 e6 h6=>?_
       symm
       have ha0:H an=none:=(haf an (A04 han)).2;refine⟨_,rfl,by walk_at "sm",fz5.trans (e6.fzD hk1),hT5.put e6 hn hjn han h6 (Fl hk2) (λy hy=>?_) (λy=>?_) hother⟩
       . rcases mem_addAll.mp hy with hy|hy
         . exact hk3 y hy
         exact hm3 y hy
       rw[mem_addAll,hk4,hmid2];unfold ah2;rw[htj,A0G,A29];constructor
       . rintro((h|h)|h)
         . exact .inl h
         . exact .inr ⟨.inl h.1,h.2⟩
         exact .inr ⟨.inr rfl,hRn,h⟩
       rintro(h|h)
       . exact .inl (.inl h)
       exact .inr h.2.2
     have hRn:¬ R nm mid:=λq=>hc (hin.mpr q)
     symm
     refine⟨_,rfl,e5,fz5,hT5.congr λz hz y=>?_⟩
     by_cases hzn:z=nm
     . subst hzn;unfold ah2;constructor
       . exact λh=>.inl (h.elim (λq=>q) λq=>absurd q.2.1 hRn)
       exact λh=>.inl (h.elim (λq=>q) λq=>absurd q.2.1 hRn)
     exact hother z hz hzn y
   obtain⟨x5',rfl,e5,fz5,hT5⟩:=hP;rw[A11] at hT5;refine⟨_,_,_,rfl,e5,fz4.trans fz5,hT5.congr (R':=λz y=>R z y\/(R z mid/\R mid y)) λz hz y=>?_,?_⟩
   . unfold ah2;simp[hz]
   have htj:ns.take (i+1)=ns.take i++[mid]:=by rw[A0S,hmid];rfl
   rw[htj];exact hR.step
 obtain⟨x4,x5,R,rfl,e4,fz4,hT4,hR⟩:=hP;rw[A11] at hR
 symm
 exact k r as H4 hr0 (λa ha'=>(haf a ha').2) e4 (hT4.congr λz _ y=>hR.done hW.mem z y)
def WyT (K:W.Frag)(H:Hp)(ps:List (Str×Str))(x:Str)(ks:List Str)(ts:List Addr):Prop:=ts.length=ks.length/\∀(i:Nat) (z:Str) (t:Addr),ks[i]? = some z->ts[i]? = some t->∃ js os,Is K H (jsD js) (.ref t)/\js.length<=1000/\Trl ps x js z os/\∀ o∈os,o∈ks
theorem WyT.fz {K:W.Frag}{H H':Hp}{ps:List (Str×Str)}{x:Str}{ks:List Str}{ts:List Addr}(h:WyT K H ps x ks ts)(e:Fz H H'):WyT K H' ps x ks ts:=
 ⟨h.1,λi z t hz ht=>let ⟨js,os,h1,h2⟩:=h.2 i z t hz ht;⟨js,os,Is.fz e _ _ (al3 js) h1,h2⟩⟩
theorem WyT.snoc {K:W.Frag}{H:Hp}{ps:List (Str×Str)}{x:Str}{ks:List Str}{ts:List Addr}(h:WyT K H ps x ks ts){z:Str}{t:Addr}{js:List Nat}{os:List Str}(h1:Is K H (jsD js) (.ref t))(h2:js.length<=1000)(h3:Trl ps x js z os)(h4:∀ o∈os,o∈ks):WyT K H ps x (ks++[z]) (ts++[t]):=by
 refine⟨by simp[h.1],λi y u hy hu=>?_⟩
 by_cases hi:i<ks.length
 . rw[A1V hi] at hy;rw[A1V (by rw[h.1];exact hi)] at hu;obtain⟨js',os',g1,g2,g3,g4⟩:=h.2 i y u hy hu;exact⟨js',os',g1,g2,g3,λo ho=>A0X _ (g4 o ho)⟩
 have hi':i=ks.length:=by have:=(A00.mp hy).1;rw[A0T,A27] at this;omega
 subst hi';have e1:y=z:=by simpa using hy.symm
 have e2:u=t:=by rw[<- h.1] at hu;simpa using hu.symm
 subst e1 e2;exact⟨js,os,h1,h2,h3,λo ho=>A0X _ (h4 o ho)⟩
def Fe (K:W.Frag):Sp:=λvs H Q _=>∃ v x y ps,vs=[v,.str x,.str y]/\Is K H (psD ps) v/\ps.length<=100/\∀ u H',Same H H'->((u = .non/\¬ x=y/\¬ Way ps x y)\/∃ js os,Is K H' (jsD js) u/\js.length<=1000/\Trl ps x js y os)->Q u H'
theorem Lz {f:Addr}{fd:FuncData}(F:Fun K "way_by_sayings" "way_by_sayings" Bx f fd)(T:Gg mg):FnOk P w K mg base CX0 1 f fd ["sayings","start","goal"] (Fe K):=by
 refine F.ok Bo (λvs H Q E h=>?_) (λcdv A outer s H vs Q E hr h=>?_)
 . obtain⟨v,x,y,ps,rfl,_⟩:=h;rfl
 obtain⟨v,x,y,ps,rfl,hI,hl,k⟩:=h;have hu:=Cg hr;have hq:=Cf hr
 with_reducible refine⟨_,(A3 (Ad (i:=3) Bo.nd ⋯ (by eq_refl) (Nk (Gj (pv 1) (B0 A2) Ny) ⋯ ⋯ ∅ ∅))
  (A3 (Ad (i:=4) Bo.nd ⋯ (by eq_refl) (Bf (A1 (pv 1) A2)))
  (A3 (ab5 A17 (An at6 (Ae (By (K:=K)) ⋯ T.b_len PyProof.Rows.Boot.«len» (A1 (pv 4) A2)) A6 (Ay _))
  (A3 (Ad (i:=5) Bo.nd ⋯ (by eq_refl) (Eh (K:=K) A0I A4V A4W (mm ae1) (pv 4) (A1 A6 A2)))
  (A5 (Eo A17 ⋯ (ao2 (K:=K) ⋯ T.b_enumerate (A1 (pv 0) A2)) (Yy (K:=K) (n:=2) ⋯ (Mn (Al (i:=6) Bo.nd ⋯ (by eq_refl)) (Mn (Al (i:=7) Bo.nd ⋯ (by eq_refl)) a58)))
  (A5 (Cq (PW.pt (Ph (An (C5 (K:=K) hq) (Ak (A7 (K:=K) hu) (pv 7) A6 (by ac_rfl)) (pv 5) (Ay _)) (R0 (An (Gc (K:=K) hq) (Ak (A7 (K:=K) hu) (pv 7) A6 (by ac_rfl)) (pv 3) ⋯)))) (A3 (Gd hu (pv 3) (Ak (A7 (K:=K) hu) (pv 7) A6 (by ac_rfl)) (Ar (Am (K:=K)) (Ak (A7 (K:=K) hu) (pv 3) (pv 5) (by ac_rfl)) (B0 (A1 (pv 6) A2))) ⋯)
  (A5 (Bs (Eh (K:=K) A0I A0V A0W (mm Bg) (pv 4) (A1 (Ak (A7 (K:=K) hu) (pv 7) A6 (by ac_rfl)) A2))))) Ax))))))
  (A5 (At (ae5 hu (pv 3) (pv 2) (by with_unfolding_all exact⟨rfl,rfl,rfl,rfl⟩))))))),?_⟩
 symm
 refine Ru λr H1 hr1 e1 h1=>?_
 symm
 refine B7 ∅ λt0 H2 ht2 e2 h2=>?_
 symm
 refine Oa [(Sum.inr x,.ref t0)] (by walk_at "lk") (by rfl) (by simp) λH3 e3 h3=>?_;have h3':H3 r=some (.dK (Jh [x] [t0])):=h3
 symm
 refine Bq (A8 (by simp)) λq H4 hq4 e4 h4=>?_;have h2r:H2 r=some (.dK []):=e2 _ _ h1;have ht03:H3 t0=some (.tup []):=e3 _ _ (ne_of h2 h2r (by intro z;cases z)) h2;have hrq:r≠q:=ne_of_none h3' hq4;have e04:Same H H4:=by walk_at "sm"
 have hq0:H q=none:=Same.free (by walk_at "sm":Same H H3) hq4
 have hW0:WyT K H4 ps x [x] [t0]:=⟨rfl,λi z t hz ht=>by
  have hi:i=0:=by have:=(A00.mp hz).1;simpa using this
  subst hi;have e1:z=x:=by simpa using hz.symm
  have e2:t=t0:=by simpa using ht.symm
  subst e1 e2;exact⟨[],[],Is.of_tup (SqT.of (e4 _ _ ht03)) .nil,by decide,Trl.nil ps _,λ_ h=>by cases h⟩⟩
 symm
 refine au8 (λm σ H5=>∃ ks ws ts x5 x6 x7,σ=[some v,some (.str x),some (.str y),some (.ref r),some (.ref q),x5,x6,x7]/\Same H H5/\H5 r=some (.dK (Jh ks ts))/\H5 q=some (.lst (ws.map V.str))/\WyT K H5 ps x ks ts/\WyI ps x ks ws/\m=2*(ps.length+1-ks.length)+ws.length)
  (2*(ps.length+1-[x].length)+[x].length) ⟨[x],[x],[t0],_,_,_,rfl,e04,e4 _ _ h3',h4,hW0,⟨by simp,by simp,λy hy=>.inl (by simpa using hy),λz hz=>hz,λz hz hn=>absurd hz hn,by simp⟩,rfl⟩ λm σ H5 hP=>?_
 obtain⟨ks,ws,ts,x5,x6,x7,rfl,e5,h5r,h5q,hT5,hB,rfl⟩:=hP
 symm
 refine Ig (λhE=>?_) (λhE=>?_)
 . cases ws with
   |nil=>simp at hE
   |cons here ws=>
   refine ay6 ?_
   symm
   refine ab2 (y:=.str here) h5q ∅ (by rfl) (λH6 e6 h6q=>?_) (by have:=hB.le;have:=hB.few;rw[A02];omega);have h6q':H6 q=some (.lst (ws.map V.str)):=h6q;have h6r:H6 r=some (.dK (Jh ks ts)):=e6 _ _ hrq h5r;have fz6:Fz H5 H6:=e6.fzL h5q;have e06:Same H H6:=by walk_at "sm"
   have hle:=hB.le;have hfew:=hB.few;rw[A0N] at hfew
   symm
   refine ao7 (hI.ps_fz e06.fz) (λi σ H7=>∃ gs ms us x6 x7,σ=[some v,some (.str x),some (.str y),some (.ref r),some (.ref q),some (.str here),x6,x7]/\Same H H7/\Fz H6 H7/\H7 r=some (.dK (Jh gs us))/\H7 q=some (.lst (ms.map V.str))/\WyT K H7 ps x gs us/\WyJ ps x here ks ws gs ms i)
    ⟨ks,ws,ts,_,_,rfl,e06,.refl _,h6r,h6q',hT5.fz fz6,⟨hB.nd,hB.way,λz hz=>hB.line z (A0B _ hz),λ_ h=>h,λ_ h=>h,λ_ h=>.inl h,λj hj=>absurd hj (Nat.not_lt_zero _),rfl⟩⟩ (λi σ' H' hP=>?_) (λi pr w σ' H7 H8 hpr hIp hP e8=>?_) (fun σ' H7 hP=>?_)
   . obtain⟨_,_,_,_,_,_,_,fz,_⟩:=hP;exact fz
   . obtain⟨gs,ms,us,x6',x7',rfl,e7,fz7,h7r,h7q,hT7,hJ⟩:=hP;have hgl:=hJ.le;have hml:=hJ.len;have h8r:=e8 _ _ h7r;have h8q:=e8 _ _ h7q;have hT8:=hT7.fz e8.fz;have hhere:here∈gs:=hJ.keep here (hB.line here A0M)
     symm
     refine Vg hIp ?_
     symm
     refine Ig (λh1=>?_) (λh1=>?_)
     . have h1':pr.1=here:=by injection h1
       symm
       refine Pf hIp ?_
       symm
       refine af7 h8r hT8.1 ?_
       symm
       refine ap6 (λh2=>?_) (λh2=>?_)
       . obtain⟨ih,hih,eih⟩:=A2L hhere;have gih:gs[ih]? = some here:=by rw[A05 hih,eih]
         obtain⟨th,gth⟩:∃ th,us[ih]? = some th:=⟨us[ih]'(by rw[hT8.1];exact hih),A05 _⟩;obtain⟨js,os,hj1,hj2,hj3,hj4⟩:=hT8.2 ih here th gih gth;obtain⟨at',xs',hat,hS8,hL8⟩:=Is.tup hj1
         cases hat;have hlen8:xs'.length=js.length:=by rw[<- IsL.length hL8,A02]
         have hosn:=hj3.nd
         have hjl:js.length<=ps.length+1:=by have:=Cc (A1S.mp hosn).1 (ys:=gs) hj4;rw[hj3.len] at this;omega
         symm
         refine i_ixD h8r (Fy hJ.nd gih gth) ?_
         symm
         refine B7 (A8 (by simp)) λt9 H9 ht9 e9 h9=>?_;refine am1 (e9.seqT hS8) (SqT.of h9) (A8 (by simp;omega)) λt10 H10 e10 h10=>?_
         have hI10:Is K H10 (jsD (js++[i])) (.ref t10):=by unfold jsD;rw[A16];exact Is.of_tup h10 ((IsL.mono e10 _ _ (IsL.mono e9 _ _ hL8)).append (.one Gv))
         symm
         refine Pf ((hIp.pr_fz e9.fz).pr_fz e10.fz) ?_;have h10r:=e10 _ _ (e9 _ _ h8r);have h10q:=e10 _ _ (e9 _ _ h8q);refine Jo h10r (by unfold Jh;rw[List.length_map,List.length_zip];omega) λH11 e11 h11r=>?_;rw[at3 h2 hT8.1.symm] at h11r;have fz11:Fz H10 H11:=e11.fzD h10r;have h11q:=e11 _ _ (Ne.symm hrq) h10q
         symm
         refine Pf (((hIp.pr_fz e9.fz).pr_fz e10.fz).pr_fz fz11) ?_
         symm
         refine Iy h11q (by rw[A02];omega) λH12 e12 h12q=>?_
         symm
         have fz12:Fz H11 H12:=e12.fzL h11q
         have hT12:WyT K H12 ps x (gs++[pr.2]) (us++[t10]):=WyT.snoc (hT8.fz (((e9.fz.trans e10.fz).trans fz11).trans fz12)) (Is.fz (fz11.trans fz12) _ _ (al3 _) hI10) (by simp;omega) (hj3.snoc (by rw[<- h1'];exact hpr) (λhm=>by
          rcases A0G.mp hm with hm|hm
          . exact h2 (hj4 _ hm)
          . have:pr.2=here:=by simpa using hm
            exact h2 (this ▸ hhere))) (λo ho=>by
          rcases A0G.mp ho with ho|ho
          . exact hj4 o ho
          have:o=here:=by simpa using ho
          exact this ▸ hhere)
         refine⟨gs++[pr.2],ms++[pr.2],us++[t10],_,_,rfl,by walk_at "sm",(((fz7.trans e8.fz).trans (e9.fz.trans e10.fz)).trans fz11).trans fz12,e12 _ _ hrq h11r,?_,hT12,hJ.step hhere hpr h1' h2⟩;rw[h12q,A16];rfl
       exact⟨gs,ms,us,_,_,rfl,by walk_at "sm",fz7.trans e8.fz,h8r,h8q,hT8,hJ.skip hpr λ_=>h2⟩
     exact⟨gs,ms,us,_,_,rfl,by walk_at "sm",fz7.trans e8.fz,h8r,h8q,hT8,hJ.skip hpr λe=>absurd (by rw[e]) h1⟩
   obtain⟨gs,ms,us,x6',x7',rfl,e7,fz7,h7r,h7q,hT7,hJ⟩:=hP;have hgl:=hJ.le;have hml:=hJ.len;have hge:=Cc hB.nd hJ.keep;refine⟨_,?_,gs,ms,us,_,_,_,rfl,e7,h7r,h7q,hT7,WyJ.done hB hJ,rfl⟩;rw[A0N];omega
 have hn:ws=[]:=by
  cases ws with
  |nil=>rfl
  |cons _ _=>simp at hE
 subst hn
 symm
 refine az4 h5r ?_
 symm
 refine aI1 h5r ?_
 by_cases hy:y∈ks
 . obtain⟨iy,hiy,eiy⟩:=A2L hy;have giy:ks[iy]? = some y:=by rw[A05 hiy,eiy]
   obtain⟨ty,gty⟩:∃ ty,ts[iy]? = some ty:=⟨ts[iy]'(by rw[hT5.1];exact hiy),A05 _⟩;obtain⟨js,os,hj1,hj2,hj3,hj4⟩:=hT5.2 iy y ty giy gty;rw[Fy hB.nd giy gty];exact k _ H5 e5 (.inr ⟨js,os,hj1,hj2,hj3⟩)
 rw[Hn hy];exact k _ H5 e5 (.inl ⟨rfl,λe=>hy (e ▸ hB.has),λg=>hy (hB.all g)⟩)
def aS8:PyData->Bool
 |.tuple _=>true
 |_=>false
def aM3:PyData->Bool
 |.str _=>true
 |_=>false
theorem aJ7 {K:W.Frag}{H:Hp}{Q:VK}{D:PyData}{v:V}(h:Is K H D v)(k:Q (.bl (aS8 D)) H):Kc K [v,.ty "tuple"] H Q:=by
 cases D with
 |none=>simp only[Is] at h;subst h;exact Rn .non (b:=false) (by rfl) k
 |bool b=>simp only[Is] at h;subst h;exact Rn (.bl b) (b:=false) (by rfl) k
 |int b=>simp only[Is] at h;subst h;exact Rn (.int b) (b:=false) (by rfl) k
 |str b=>simp only[Is] at h;subst h;exact Rn (.str b) (b:=false) (by rfl) k
 |list ds=>simp only[Is] at h;obtain⟨a,xs,rfl,h1,_⟩:=h;exact Ym h1 (b:=false) (by rfl) k
 |tuple ds=>simp only[Is] at h;obtain⟨a,xs,rfl,h1,_⟩:=h;exact a00 h1 (b:=true) (by rfl) k
 |dict _=>simp only[Is] at h
theorem aK8 {K:W.Frag}{H:Hp}{Q:VK}{D:PyData}{v:V}(h:Is K H D v)(k:Q (.bl (aM3 D)) H):Kc K [v,.ty "str"] H Q:=by
 cases D with
 |none=>simp only[Is] at h;subst h;exact Rn .non (b:=false) (by rfl) k
 |bool b=>simp only[Is] at h;subst h;exact Rn (.bl b) (b:=false) (by rfl) k
 |int b=>simp only[Is] at h;subst h;exact Rn (.int b) (b:=false) (by rfl) k
 |str b=>simp only[Is] at h;subst h;exact Rn (.str b) (b:=true) (by rfl) k
 |list ds=>simp only[Is] at h;obtain⟨a,xs,rfl,h1,_⟩:=h;exact Ym h1 (b:=false) (by rfl) k
 |tuple ds=>simp only[Is] at h;obtain⟨a,xs,rfl,h1,_⟩:=h;exact a00 h1 (b:=false) (by rfl) k
 |dict _=>simp only[Is] at h
theorem aP8 {K:W.Frag}{H:Hp}{Q:VK}{a:Addr}{xs:List V}(h:SqT K H a xs)(k:Q (.int xs.length) H):Tz K [.ref a] H Q:=.inl ⟨.ref a,_,rfl,.inr ⟨xs,h,rfl⟩,k⟩
theorem al1:∀ {ds:List PyData} {e:PyData},e∈ds->e.weight<=PyData.weightAll ds
 |d :: ds,e,h=>by
   simp only[PyData.weightAll];rcases A0C.mp h with rfl|h
   . omega
   have:=al1 h;omega
def az:Str:="abcdefghijklmnopqrstuvwxyz"
def af2 (c:Nat):Bool:=!(Builtin.Str.occurrences az ⟨#[c]⟩ 0 az.length 1).isEmpty
def Gu (x:Str):Bool:=decide (1<=x.length)&&decide (x.length<=8)&&x.cps.toList.all af2
def Ti:PyData->Bool
 |.str x=>Gu x
 |_=>false
def Lb (K:PySem.W.Frag):Sp:=λvs H Q _=>∃ v D n w W,vs=[v]/\Is K H D v/\Dk n w W D/\w<=1000000/\∀ H',Same H H'->Q (.bl (Ti D)) H'
theorem ae6 {D:PyData}(h:aM3 D=false):Ti D=false:=by cases D<;>first | rfl | cases h
theorem Xm {f:Addr}{fd:FuncData}(F:Fun K "is_name" "is_name" Hi f fd)(T:Gg mg):FnOk P w K mg base CX0 1 f fd ["thing"] (Lb K):=by
 refine F.ok X0 (λvs H Q E h=>?_) (λcdv A outer s H vs Q E hr h=>?_)
 . obtain⟨v,D,n,w,W,rfl,_⟩:=h;rfl
 obtain⟨v,D,n,w,W,rfl,hI,hD,hw,k⟩:=h;have hu:=Cg hr;have hq:=Cf hr
 with_reducible refine⟨_,(A3 (Cq (Hf (Di (Ae (Iz (K:=K)) ⋯ T.b_isinstance PyProof.Rows.Boot.«isinstance» (A1 (pv 0) (A1 (Hm (v:=.ty "str") ⋯ T.b_str PyProof.Rows.Boot.«str» ⋯) A2))))) (A5 (At Ku)) Ax)
  (A3 (Cq (PW.pt (a51 (An aF6 (Ae (By (K:=K)) ⋯ T.b_len PyProof.Rows.Boot.«len» (A1 (pv 0) A2)) A6 (Ay _)) (Sm (An at6 (Ae (By (K:=K)) ⋯ T.b_len PyProof.Rows.Boot.«len» (A1 (pv 0) A2)) (Dt ⋯ T.g_MOST_SIGNS) (Ay _))))) (A5 (At Ku)) Ax)
  (A5 (At (Ae (T1 (K:=K) ⋯) ⋯ T.b_all PyProof.Rows.Boot.«all» (A1 (Dm ["sign"] [] [] ⋯ ⋯ ⋯ (B3 (K:=K) hu (pv 0)) (λ_ _ _ _=>(Al (i:=0) (by with_unfolding_all (show(["sign"]:List Str).Nodup;decide +kernel)) ⋯ (by eq_refl))) (Cd ∅) (λ_ _ _ _=>Dx) (λ_ _ _ _=>(Cu (Pq (K:=K) hq) (pv 0) (Dt ⋯ T.g_SMALL_LETTERS) ⋯))) A2)))))),?_⟩
 symm
 cases hT:aM3 D with
 |true=>
   obtain⟨x,rfl⟩:∃ z,D = .str z:=by cases D<;>first | exact⟨_,rfl⟩ | cases hT
   have hv:v = .str x:=by simpa only[Is] using hI
   subst hv;have hx:x.length<=1000000:=A0L hD.str.2 hw;have k:∀ H',Same H H'->Q (.bl (Gu x)) H':=k;refine Rn (TyOf.str x) (b:=true) (by rfl) ?_
   symm
   refine Ig (λh1=>?_) (λh1=>?_)
   . symm
     have e:Gu x=false:=by unfold Gu;rw[A0Q (by omega:¬ 1<=x.length)];rfl
     have:=k H (Same.refl H);rw[e] at this;exact this
   symm
   refine Ig (λh2=>?_) (λh2=>?_)
   . symm
     have e:Gu x=false:=by unfold Gu;rw[A0Q (by omega:¬ x.length<=8),A50];rfl
     have:=k H (Same.refl H);rw[e] at this;exact this
   symm
   refine Mj (aa5 x) (λv=>.bl (match v with | .str z=>!(Builtin.Str.occurrences az z 0 az.length 1).isEmpty | _=>false)) (by rw[A02,A53];exact hx) (λ_ _=>trivial) (λi v H1 R hv e hR=>?_) λp H' hp e h=>?_
   . obtain⟨c,rfl,_⟩:=ax2 hv
     symm
     exact hR
   symm
   have e1:(x.cps.toList.map λc=>V.str ⟨#[c]⟩).map (λv=>V.bl (match v with | .str z=>!(Builtin.Str.occurrences az z 0 az.length 1).isEmpty | _=>false))=(x.cps.toList.map af2).map V.bl:=by rw[A1A,A1A];rfl
   rw[e1] at h;refine aK5 (SqL.of h) ?_
   have e2:Gu x=(x.cps.toList.map af2).all id:=by unfold Gu;rw[A0Z (by omega:1<=x.length),A0Z (by omega:x.length<=8),List.all_map];rfl
   have:=k H' e;rw[e2] at this;exact this
 |false=>
   have k:=k H (Same.refl H);rw[ae6 hT] at k;refine aK8 hI ?_;rw[hT]
   symm
   exact k
theorem ag5:∀ c<123,97<=c->af2 c=true:=by decide +kernel
theorem Z8 {z:Str}(h:Nt z=true):Gu z=true:=by unfold Nt at h;unfold Gu;rw[A19] at h ⊢;refine⟨h.1,?_⟩;rw[A1B];intro c hc;have:=A1B.mp h.2 c hc;unfold Kq at this;simp only[Bool.and_eq_true,decide_eq_true_eq] at this;exact ag5 c nofun nofun
theorem We {α:Type}[DecidableEq α]:∀ {as bs:List α},as.Nodup->(∀ z∈as,z∈bs)->bs.length<=as.length->as.Perm bs
 | [],bs,_,_,hl=>by rw[A1C.mp (Nat.le_zero.mp hl)]
 |a :: as,bs,hn,hs,hl=>by have ha:a∈bs:=hs a (by simp);obtain⟨h1,h2⟩:=A0P.mp hn;have ih:=We (as:=as) (bs:=bs.erase a) h2 (λz hz=>(List.mem_erase_of_ne (λe:z=a=>h1 (by rw[<- e];exact hz))).mpr (hs z (by simp[hz]))) (by rw[List.length_erase_of_mem ha];simp at hl;omega);exact(List.Perm.cons a ih).trans (List.perm_cons_erase ha).symm
def UnD (D:PyData):Prop:=∃ ns:List Str,D=nmD ns/\(∀ z∈ns,Gu z=true)/\ns.Nodup
theorem ag0 {ds:List PyData}(h:∀ e∈ds,Ti e=true):∃ ns:List Str,ds=ns.map PyData.str/\∀ z∈ns,Gu z=true:=by
 induction ds with
 |nil=>exact⟨[],rfl,λz hz=>by cases hz⟩
 |cons d ds ih=>
   obtain⟨ns,rfl,hn⟩:=ih λe he=>h e (A0B _ he);have:=h d (by simp)
   cases d with
   |str z=>exact⟨z :: ns,rfl,λy hy=>(A0C.mp hy).elim (λe=>by rw[e];exact this) (hn y)⟩
   |_=>cases this
def Dw (K:PySem.W.Frag):Sp:=λvs H Q _=>∃ v D n w W,vs=[v]/\Is K H D v/\Dk n w W D/\w<=1000000/\W<=1000/\∀ b H',Same H H'->(b=true↔UnD D)->Q (.bl b) H'
theorem Ki {f:Addr}{fd:FuncData}(F:Fun K "are_unlike_names" "are_unlike_names" Bc f fd)(T:Gg mg)(Nz:Fnd P w K mg base 1 "is_name" ["thing"] (Lb K)):FnOk P w K mg base CX0 2 f fd ["thing"] (Dw K):=by
 refine F.ok Ka (λvs H Q E h=>?_) (λcdv A outer s H vs Q E hr h=>?_)
 . obtain⟨v,D,n,w,W,rfl,_⟩:=h;rfl
 obtain⟨v,D,n,w,W,rfl,hI,hD,hw,hW,k⟩:=h;have hu:=Cg hr;have hq:=Cf hr
 with_reducible refine⟨_,(A3 (Cq (Hf (Di (Ae (Iz (K:=K)) ⋯ T.b_isinstance PyProof.Rows.Boot.«isinstance» (A1 (pv 0) (A1 (Hm (v:=.ty "tuple") ⋯ T.b_tuple PyProof.Rows.Boot.«tuple» ⋯) A2))))) (A5 (At Ku)) Ax)
  (A3 (Cq (Hf (Di (Ae (T1 (K:=K) ⋯) ⋯ T.b_all PyProof.Rows.Boot.«all» (A1 (Dm ["name"] [] [] ⋯ ⋯ ⋯ (B3 (K:=K) hu (pv 0)) (λ_ _ _ _=>(Al (i:=0) (by with_unfolding_all (show(["name"]:List Str).Nodup;decide +kernel)) ⋯ (by eq_refl))) (Cd ∅) (λ_ _ _ _=>Dx) (λ_ _ _ _=>(Ch Nz (hr.mono ∅) ⋯ (A1 (pv 0) A2)))) A2)))) (A5 (At Ku)) Ax)
  (A5 (At (Cu (C5 (K:=K) hq) (Z7 (K:=K) hr.hd ⋯ T.b_len ⋯ T.b_set (A1 (pv 0) A2)) (Ae (By (K:=K)) ⋯ T.b_len PyProof.Rows.Boot.«len» (A1 (pv 0) A2)) (Ay _)))))),?_⟩
 symm
 refine aJ7 hI ?_
 cases hT:aS8 D with
 |false=>
   symm
   refine k false H (.refl H) ⟨λh=>(by cases h),λ⟨ns,e,_⟩=>?_⟩;rw[e] at hT
   cases hT
 |true=>
   obtain⟨ds,rfl⟩:∃ ds,D = .tuple ds:=by cases D<;>first | exact⟨_,rfl⟩ | cases hT
   obtain⟨va,xs,rfl,hS,hX⟩:=hI.tup;have hxl:=IsL.length hX;obtain⟨m,rfl⟩:∃ m,n=m+1:=⟨n-1,by have:=hD.dp;simp only[PyData.depth] at this;omega⟩;have hE:=hD.els;have hwl:ds.length<=W:=hE.len
   symm
   refine Nf hS ?_;refine af9 (K:=K) (Er (xs:=xs)) ds hxl Ti nofun (λH' e=>e.seqT hS) (λi z xv H1 R hz' hxv e1 hR=>?_) (λq H1 hq1 e1 h1=>?_)
   . obtain⟨d',hd',hIz⟩:=IsL.get (IsL.mono e1 _ _ hX) hxv;rw[hz'] at hd'
     cases hd';have hmem:=A04 hz';obtain⟨uu,huu⟩:=hE.all z hmem
     symm
     exact⟨xv,z,m,w,W,rfl,hIz,⟨huu.asc,huu.lay,huu.sh,huu.lv,huu.dp,A0L (al1 hmem) hE.wt,huu.wd⟩,by omega,hR⟩
   symm
   refine aK5 h1 ?_
   cases hA:(ds.map Ti).all id with
   |false=>
     symm
     refine k false H1 e1 ⟨λh=>(by cases h),λ⟨ns,e,hn,_⟩=>?_⟩;injection e with e;subst e;rw[List.all_map,List.all_map] at hA;have:ns.all ((id∘Ti)∘PyData.str)=true:=A1B.mpr λz hz=>hn z hz;rw[this] at hA
     cases hA
   |true=>
     rw[List.all_map,A1B] at hA;obtain⟨ns,rfl,hn⟩:=ag0 hA;have exs:=IsL.str_eq hX;subst exs;rw[A02] at hwl
     symm
     refine a93 (e1.seqT hS) nofun ?_
     symm
     refine aP8 (e1.seqT hS) ?_
     symm
     refine k _ H1 e1 ?_;rw[A4A,A02];constructor
     . intro h;have h:=V.int.inj h;have hlen:(Dh [] ns).length=ns.length:=by omega
       have hp:=We (Fl (ms:=ns) (ks:=[]) .nil) (λz hz=>(mem_addAll.mp hz).elim (λh=>by cases h) id) nofun;exact⟨ns,rfl,hn,hp.nodup_iff.mp (Fl .nil)⟩
     rintro⟨ns',e,_,hnd⟩;have e:ns.map PyData.str=ns'.map PyData.str:=by injection e
     have e2:ns=ns':=by
      have:=congrArg (List.map λd=>match d with | PyData.str z=>z | _=>("":Str)) e
      simpa[List.map_map,Function.comp_def] using this
     rw[e2,Yb hnd]
def TnD (D:PyData):Prop:=∃ ns:List Str,D=nmD ns/\(∀ z∈ns,Gu z=true)/\ns.Nodup/\ns.length<=10
def Dg (K:PySem.W.Frag):Sp:=λvs H Q _=>∃ v D n w W,vs=[v]/\Is K H D v/\Dk n w W D/\w<=1000000/\W<=1000/\∀ b H',Same H H'->(b=true↔TnD D)->Q (.bl b) H'
theorem a82 {ns ms:List Str}(h:nmD ns=nmD ms):ns=ms:=by
 have e:ns.map PyData.str=ms.map PyData.str:=by injection h
 have:=congrArg (List.map λd=>match d with | PyData.str z=>z | _=>("":Str)) e
 simpa[List.map_map,Function.comp_def] using this
theorem Lk {f:Addr}{fd:FuncData}(F:Fun K "are_tale_names" "are_tale_names" Bu f fd)(T:Gg mg)(Ei:Fnd P w K mg base 2 "are_unlike_names" ["thing"] (Dw K)):FnOk P w K mg base CX0 3 f fd ["thing"] (Dg K):=by
 refine F.ok Li (λvs H Q E h=>?_) (λcdv A outer s H vs Q E hr h=>?_)
 . obtain⟨v,D,n,w,W,rfl,_⟩:=h;rfl
 obtain⟨v,D,n,w,W,rfl,hI,hD,hw,hW,k⟩:=h;have hu:=Cg hr;have hq:=Cf hr
 with_reducible refine⟨_,(A5 (At (W8 (Ch Ei (hr.mono ∅) ⋯ (A1 (pv 0) A2)) (Vw (Cu aN6 (Ae (By (K:=K)) ⋯ T.b_len PyProof.Rows.Boot.«len» (A1 (pv 0) A2)) (Dt ⋯ T.g_MOST_NAMES) (Ay _)))))),?_⟩
 symm
 refine⟨v,D,n,w,W,rfl,hI,hD,hw,hW,λb H1 e1 hb=>?_⟩
 cases b with
 |false=>
   symm
   exact k false H1 e1 ⟨λh=>(by cases h),λ⟨ns,e,h1,h2,_⟩=>hb.mpr ⟨ns,e,h1,h2⟩⟩
 |true=>
   obtain⟨ns,rfl,h1,h2⟩:=hb.mp rfl;have hI1:=hI.nm_fz e1.fz
   symm
   refine aF4 hI1 ?_
   symm
   refine k _ H1 e1 ?_;rw[A4A];exact⟨λh=>⟨ns,rfl,h1,h2,by omega⟩,λ⟨ms,e,_,_,h⟩=>by rw[a82 e];omega⟩
def Ho (K:W.Frag):Sp:=λvs H Q _=>∃ r x y ns ps as,vs=[.ref r,.str x,.str y]/\TabR H r ns as (Way ps)/\ns.Nodup/\x∈ns/\y∈ns/\Q (.bl (unB ps x y)) H
def J7 (K:W.Frag):Sp:=λvs H Q _=>∃ r ns ps as,vs=[.ref r]/\Tab H r ns as (Way ps)/\ns.Nodup/\ns.length<=100/\∀ u H',Same H H'->Is K H' (psD (unP ns ps)) u->Q u H'
theorem Wb:∀ {ns:List Str} {as:List Addr},as.length=ns.length->(Jh ns as).map (λkv=>kV kv.1)=ns.map V.str
 | [],[],_=>rfl
 | [],_ :: _,h=>by simp at h
 |_ :: _,[],h=>by simp at h
 |n :: ns,a :: as,h=>by have ih:=Wb (ns:=ns) (as:=as) (by simpa using h);unfold Jh at ih ⊢;rw[List.zip_cons_cons,A0H,A0H,ih];rfl
def Oc (K:W.Frag):Sp:=λvs H Q _=>∃ v ns ps,vs=[v]/\Is K H (hfD ns ps) v/\HalfW ns ps/\∀ u H',Same H H'->Is K H' (psD (unP ns ps)) u->Q u H'
theorem Qp {f:Addr}{fd:FuncData}(F:Fun K "are_untold" "are_untold" Eb f fd)(T:Gg mg):FnOk P w K mg base CX0 1 f fd ["reach","one","other"] (Ho K):=by
 refine F.ok R7 (λvs H Q E h=>?_) (λcdv A outer s H vs Q E hr h=>?_)
 . obtain⟨r,x,y,ns,ps,as,rfl,_⟩:=h;rfl
 obtain⟨r,x,y,ns,ps,as,rfl,hT,hn,hx,hy,k⟩:=h;have hu:=Cg hr;have hq:=Cf hr;obtain⟨i,a,hi,hai⟩:=hT.at hx;obtain⟨ks,hk1,hk2,hk3,hk4⟩:=hT.row i x a hi hai;obtain⟨j,b,hj,hbj⟩:=hT.at hy;obtain⟨ms,hm1,hm2,hm3,hm4⟩:=hT.row j y b hj hbj
 with_reducible refine⟨_,(A5 (At (W8 (Cu (Gc (K:=K) hq) (pv 2) (Ak (A7 (K:=K) hu) (pv 0) (pv 1) (by ac_rfl)) ⋯) (Vw (Cu (Gc (K:=K) hq) (pv 1) (Ak (A7 (K:=K) hu) (pv 0) (pv 2) (by ac_rfl)) ⋯))))),?_⟩
 symm
 refine al6 hT hn hi hai ?_;refine Su hk1 ?_;rw[L1 (hk4 y)]
 symm
 refine aJ9 (λhc=>?_) (λhc=>?_)
 . symm
   refine al6 hT hn hj hbj ?_;refine Su hm1 ?_;rw[L1 (hm4 x)];unfold unB at k;rw[hc] at k;exact k
 unfold unB at k;rw[hc] at k;exact k
theorem Ry {f:Addr}{fd:FuncData}(F:Fun K "untold_of" "untold_of" Et f fd)(T:Gg mg)(Ir:Fnd P w K mg base 1 "are_untold" ["reach","one","other"] (Ho K)):FnOk P w K mg base CX0 2 f fd ["reach"] (J7 K):=by
 refine F.ok Fj (λvs H Q E h=>?_) (λcdv A outer s H vs Q E hr h=>?_)
 . obtain⟨r,ns,ps,as,rfl,_⟩:=h;rfl
 obtain⟨r,ns,ps,as,rfl,hT,hnd,hfew,k⟩:=h;have hu:=Cg hr;have hq:=Cf hr
 with_reducible refine⟨_,(A3 (Ad (i:=1) Fj.nd ⋯ (by eq_refl) (As (Pm ⋯) ⋯ T.b_list PyProof.Rows.Boot.«list» (A1 (pv 0) A2)))
  (A3 (Ad (i:=2) Fj.nd ⋯ (by eq_refl) (Bf A2))
  (A3 (Eo A17 ⋯ (ae2 (K:=K) ⋯ T.b_enumerate (A1 (pv 1) A2)) (Yy (K:=K) (n:=2) ⋯ (Mn (Al (i:=3) Fj.nd ⋯ (by eq_refl)) (Mn (Al (i:=4) Fj.nd ⋯ (by with_unfolding_all exact A3W rfl)) a58)))
  (A5 (Bs (Eh (K:=K) A0I PySem.F.slot_list_extend PySem.F.type_list_extend (mm T4) (pv 2) (A1 (Dm ["other"] ["one","reach"] [4,0] ⋯ ⋯ ⋯ (B3 (K:=K) hu (Ek (a65 (K:=K)) (pv 1) (Dv (Ar (Am (K:=K)) (pv 3) A6)) K3)) (λ_ _ _ _=>(Al (i:=0) (by with_unfolding_all (show(["other","one","reach"]:List Str).Nodup;decide +kernel)) ⋯ (by eq_refl))) (Cd ∅) (λ_ _ _ _=>(Qh (Di (Ch Ir (hr.mono ∅) ⋯ (A1 (pv 2) (A1 (pv 1) (A1 (pv 0) A2))))))) (λ_ _ _ _=>(B0 (A1 (pv 1) (A1 (pv 0) A2))))) A2)))))
  (A5 (At (As (Bd (K:=K)) ⋯ T.b_tuple PyProof.Rows.Boot.«tuple» (A1 (pv 2) A2))))))),?_⟩
 symm
 refine Y0 hT.top (by unfold Jh;rw[List.length_map,List.length_zip];omega) λq H1 hq1 e1 h1=>?_;rw[Wb hT.len] at h1
 symm
 refine Bq (A8 (by simp)) λp H2 hp2 e2 h2=>?_;have hpq:q≠p:=ne_of_none h1 hp2
 symm
 refine Yh (SqL.of (e2 _ _ h1)) (λi σ H3=>∃ x3 x4,σ=[some (.ref r),some (.ref q),some (.ref p),x3,x4]/\Same H1 H3/\Fz H2 H3/\∃ ys,H3 p=some (.lst ys)/\IsL K H3 ((unK ns ps i).map prD) ys)
  ⟨none,none,rfl,e2,.refl _,[],h2,.nil⟩ (λi σ' H' hP=>?_) (λi x σ' H3' H3 hx hP e33=>?_) (fun σ' H3 hP=>?_)
 . obtain⟨_,_,_,es,_⟩:=hP;exact SqL.of (es _ _ h1)
 . obtain⟨x3,x4,rfl,e3',fz3',ys,h3',hL'⟩:=hP
   obtain⟨z,hz,rfl⟩:∃ z,ns[i]? = some z/\x = .str z:=by
    rw[A08] at hx
    cases g:ns[i]? with
    |none=>rw[g] at hx;cases hx
    |some z=>rw[g] at hx;cases hx;exact⟨z,rfl,rfl⟩
   have e3:=e3'.trans e33;have fz3:=fz3'.trans e33.fz;have h3:=e33 _ _ h3';have hL:=IsL.mono e33 _ _ hL';have hzm:=A04 hz;have hin:i<ns.length:=(A00.mp hz).1
   have hly:ys.length<=i*ns.length:=by rw[<- IsL.length hL,A02];exact aq7 ns ps i
   have hly2:i*ns.length<=100*100:=Nat.mul_le_mul nofun hfew
   symm
   refine Uc (SqL.of (e3 _ _ h1)) λt H4 ht4 e4 h4=>?_;rw[show((i:Int)+1)=(((i+1:Nat)):Int) from rfl,ad0 nofun] at h4;refine W9 (SqL.of h4) (λy=>unB ps z y) (λy=>prD (z,y)) (λ_=>Ng _) (by rw[A1M];omega) (λj y H5 R R' hy e5 hR hR'=>?_) (λq5 zs H5 hq5 e5 h5 hL5=>?_)
   . have hT5:=hT.same (((e1.trans e3).trans e4).trans e5)
     symm
     refine⟨r,z,y,ns,ps,as,rfl,hT5.toR,hnd,hzm,A2Y (A04 hy),?_⟩
     symm
     refine ay0 (λhc=>?_) (λhc=>?_)
     . symm
       refine B7 (A8 (by simp)) λt H6 ht6 e6 h6=>?_;exact hR hc _ _ e6 (aP4 (SqT.of h6))
     exact hR' hc _ (Same.refl _)
   symm
   have h5p:=e5 _ _ (e4 _ _ h3)
   have hlz:zs.length<=ns.length:=by rw[<- IsL.length hL5,A02];exact A0L (A1L _ _) (by rw[A1M];omega)
   refine ak7 h5p h5 nofun λH6 e6 h6=>?_
   symm
   have fz6:Fz H5 H6:=e6.fzL h5p;refine⟨_,_,rfl,?_,((fz3.trans e4.fz).trans e5.fz).trans fz6,_,h6,?_⟩
   . exact Same.off (q:=p) (H1:=H5) ((e3.trans e4).trans e5) hp2 e6
   rw[ad6,A16];refine IsL.append (IsL.fz ((e4.fz.trans e5.fz).trans fz6) _ _ (Ko _) hL) ?_
   have e:(unR ns ps i).map prD=((ns.drop (i+1)).filter λy=>unB ps z y).map λy=>prD (z,y):=by unfold unR;rw[an6 hz,A1A];rfl
   rw[e];exact IsL.fz fz6 _ _ (Jf _ (λ_=>Ng _) _) hL5
 obtain⟨x3,x4,rfl,e3,fz3,ys,h3,hL⟩:=hP;rw[A02] at hL
 symm
 exact Yz h3 hL λu H4 e4 hu4=>k u H4 ((e1.trans e3).trans e4) hu4
theorem Yi {f:Addr}{fd:FuncData}(F:Fun K "untold" "untold" Ji f fd)(T:Gg mg)(Bi:Fnd P w K mg base 1 "behind_each" ["half"] (Dn K))(K1:Fnd P w K mg base 2 "untold_of" ["reach"] (J7 K)):FnOk P w K mg base CX0 3 f fd ["half"] (Oc K):=by
 refine F.ok Ya (λvs H Q E h=>?_) (λcdv A outer s H vs Q E hr h=>?_)
 . obtain⟨v,ns,ps,rfl,_⟩:=h;rfl
 obtain⟨v,ns,ps,rfl,hI,hW,k⟩:=h;have hu:=Cg hr;have hq:=Cf hr
 with_reducible refine⟨_,(A5 (At (Ch K1 (hr.mono ∅) ⋯ (A1 (Ch Bi (hr.mono ∅) ⋯ (A1 (pv 0) A2)) A2)))),?_⟩
 symm
 refine⟨v,ns,ps,rfl,hI,hW.c,λr as H1 hr1 ha1 e1 hT=>?_⟩
 symm
 exact⟨r,ns,ps,as,rfl,hT,hW.nd,hW.few,λu H2 e2 hU=>k u H2 (e1.trans e2) hU⟩
def Lx (K:W.Frag):Sp:=λvs H Q _=>∃ v ns,vs=[v]/\Is K H (nmD ns) v/\ns.Nodup/\ns.length<=10/\∀ d H',H d=none->Same H H'->H' d=some (.dK (aw4 ns))->Q (.ref d) H'
def Hy (K:W.Frag):Sp:=λvs H Q _=>∃ v bd ns ps,vs=[v,.ref bd]/\Is K H (hfD ns ps) v/\Pa ns ps/\ns.length<=10/\H bd=some (.dK (aw4 ns))/\∀ d H',H d=none->Same H H'->H' d=some (.dK (ahK ns ps))->Q (.ref d) H'
def Gw (C:Addr)(K:W.Frag):Sp:=λvs H Q _=>∃ p v dx ns ps,vs=[.ref p,v]/\H p=some (.ins C dx [])/\Is K H (hfD ns ps) v/\Pa ns ps/\ns.length<=10 /\
 ∀ nv bd ad kd H',H kd=none->ExtBut p H H'->WaysAt K C H' p dx nv bd ad kd ns ps (knK ns ps [λ_=>false])->Q .non H'
def B8 (C:Addr)(K:W.Frag):Sp:=λvs H Q _=>∃ p dx nv bd ad kd ns ps q,vs=[.ref p,.int ((B4 ns q:Nat):Int)]/\WaysB K C H p dx nv bd ad kd ns ps/\Pa ns ps/\ns.length<=10 /\
 ∀ l H',H l=none->Same H H'->H' l=some (.lst ((frF (Be ps) (ns.filter q)).map V.str))->Q (.ref l) H'
def Ci (C:Addr)(K:W.Frag)(n:Nat):Sp:=λvs H Q _=>∃ p dx nv bd ad kd ns ps qs q,vs=[.ref p,.int ((B4 ns q:Nat):Int)]/\WaysAt K C H p dx nv bd ad kd ns ps (knK ns ps qs)/\Pa ns ps/\ns.length<=10/\(ns.filter q).length<n /\
 ∀ qs' H',ExtBut kd H H'->WaysAt K C H' p dx nv bd ad kd ns ps (knK ns ps qs')->Gr ns ps qs qs' q->Q (.int ((cnt (Be ps) (ns.filter q):Nat):Int)) H'
def En (C:Addr)(K:W.Frag):Sp:=Ci C K 11
theorem Jd {C:Addr}{K:W.Frag}:∀ vs H Q E,¬ Ci C K 0 vs H Q E:=by rintro vs H Q E ⟨_,_,_,_,_,_,_,_,_,_,_,_,_,_,h,_⟩;exact absurd h (Nat.not_lt_zero _)
def R9 (K:W.Frag):Sp:=λvs H Q _=>∃ v ns ps,vs=[v]/\Is K H (hfD ns ps) v/\Pa ns ps/\ns.length<=10/\∀ H',Same H H'->Q (.int ((cnt (Be ps) ns:Nat):Int)) H'
theorem ai7 {ns:List Str}(hn:ns.Nodup)(h:ns.length<=10){x:Str}(hx:x∈ns):Fk ns x<=1024:=by obtain⟨j,hj⟩:=A1O.mp hx;rw[Ms hn hj];exact(A30 ∅ (by have:=(A00.mp hj).1;omega):2 ^ j<=2 ^ 10)
theorem Gx {f g:Str}{v x:V}{r:List (Str×V)}(h:¬ g=f):M0 f v ((g,x) :: r)=(g,x) :: M0 f v r:=by
 show(if g=f then _ else _)=_
 rw[A0J h]
theorem fld2 (a b:V):M0 "bits" b [("names",a)]=([("names",a),("bits",b)]:List (Str×V)):=by rw[Gx (by decide +kernel)];rfl
theorem fld3 (a b c:V):M0 "ahead" c [("names",a),("bits",b)]=([("names",a),("bits",b),("ahead",c)]:List (Str×V)):=by rw[Gx (by decide +kernel),Gx (by decide +kernel)];rfl
theorem fld4 (a b c d:V):M0 "full" d [("names",a),("bits",b),("ahead",c)]=([("names",a),("bits",b),("ahead",c),("full",d)]:List (Str×V)):=by rw[Gx (by decide +kernel),Gx (by decide +kernel),Gx (by decide +kernel)];rfl
theorem fld5 (a b c d e:V):M0 "known" e [("names",a),("bits",b),("ahead",c),("full",d)]=([("names",a),("bits",b),("ahead",c),("full",d),("known",e)]:List (Str×V)):=by rw[Gx (by decide +kernel),Gx (by decide +kernel),Gx (by decide +kernel),Gx (by decide +kernel)];rfl
theorem Xe {f:Addr}{fd:FuncData}(F:Fun K "bits_of" "bits_of" Hj f fd)(T:Gg mg):FnOk P w K mg base CX0 1 f fd ["names"] (Lx K):=by
 refine F.ok Hd (λvs H Q E h=>?_) (λcdv A outer s H vs Q E hr h=>?_)
 . obtain⟨v,ns,rfl,_⟩:=h;rfl
 obtain⟨v,ns,rfl,hI,hn,h10,k⟩:=h;have hu:=Cg hr;have hq:=Cf hr
 with_reducible refine⟨_,(A3 (Ad (i:=1) Hd.nd ⋯ (by eq_refl) Ml)
  (A3 (Ad (i:=2) Hd.nd ⋯ (by eq_refl) A6)
  (A3 (Eo A17 ⋯ (B3 (K:=K) hu (pv 0)) (Al (i:=3) Hd.nd ⋯ (by eq_refl))
  (A3 (Gd hu (pv 1) (pv 3) (pv 2) ⋯)
  (A5 (Ad (i:=2) Hd.nd ⋯ (by eq_refl) (Ar Fm (pv 2) A6)))))
  (A5 (At (pv 1)))))),?_⟩
 symm
 refine Wf λd H1 hd1 e1 h1=>?_
 symm
 refine Pk (hI.nm_fz e1.fz) (λi σ H2=>∃ x3,σ=[some v,some (.ref d),some (.int ((2 ^ i:Nat):Int)),x3]/\Same H H2/\Fz H1 H2/\H2 d=some (.dK ((ns.take i).map λx=>((Sum.inr x:Key),V.int ((Fk ns x:Nat):Int)))))
  ⟨_,rfl,e1,.refl _,h1⟩ (λi σ' H' hP=>hP.choose_spec.2.2.1) (λi z σ' H2 hz hP=>?_) (fun σ' H2 hP=>?_)
 . obtain⟨x3,rfl,e2,fz2,h2⟩:=hP;have hin:i<ns.length:=(A00.mp hz).1;have hlt:2 ^ i<=2 ^ 10:=A30 ∅ nofun
   have hno:z∉ns.take i:=λhm=>by
    obtain⟨j,hj⟩:=A1O.mp hm;rw[A44] at hj
    split at hj
    . rename_i hji;have a1:=A00.mp hj;have a2:=A00.mp hz;have:=(A1G hn).mp (a1.2.trans a2.2.symm);omega
    cases hj
   symm
   refine Jo h2 (by rw[A02,A14];omega) λH3 e3 h3=>?_;rw[L6 _ (J4 hno)] at h3
   symm
   refine⟨some (.str z),?_,e2.off hd1 e3,fz2.trans (e3.fzD h2),?_⟩
   . have:((2 ^ i:Nat):Int)*2=((2 ^ (i+1):Nat):Int):=by rw[Nat.pow_succ];omega
     rw[this];rfl
   rw[h3,A0S,hz];have:((2 ^ i:Nat):Int)=((Fk ns z:Nat):Int):=by rw[Ms hn hz]
   rw[this];simp
 obtain⟨x3,rfl,e2,fz2,h2⟩:=hP;rw[A11] at h2
 symm
 exact k d H2 hd1 e2 h2
theorem Qk {f:Addr}{fd:FuncData}(F:Fun K "bits_ahead" "bits_ahead" Dz f fd)(T:Gg mg)(Bi:Fnd P w K mg base 1 "behind_each" ["half"] (Dn K)):FnOk P w K mg base CX0 2 f fd ["half","bits"] (Hy K):=by
 refine F.ok Fu (λvs H Q E h=>?_) (λcdv A outer s H vs Q E hr h=>?_)
 . obtain⟨v,bd,ns,ps,rfl,_⟩:=h;rfl
 obtain⟨v,bd,ns,ps,rfl,hI,hW,h10,hB,k⟩:=h;have hu:=Cg hr;have hq:=Cf hr;have hn:=hW.nd
 with_reducible refine⟨_,(A3 (Ad (i:=2) Fu.nd ⋯ (by with_unfolding_all exact A3W rfl) (Ch Bi (hr.mono ∅) ⋯ (A1 (pv 0) A2)))
  (A3 (Ad (i:=3) Fu.nd ⋯ (by eq_refl) Ml)
  (A3 (Eo A17 ⋯ (B3 (K:=K) hu (Ak (A7 (K:=K) hu) (pv 0) A6 (by ac_rfl))) (Al (i:=4) Fu.nd ⋯ (by with_unfolding_all exact A3W rfl))
  (A5 (Gd hu (pv 3) (pv 4) (Ae (Te (K:=K) ⋯) ⋯ T.b_sum PyProof.Rows.Boot.«sum» (A1 (Dm ["one"] ["bits","name","reach"] [1,4,2] ⋯ ⋯ ⋯ (B3 (K:=K) hu (Ak (A7 (K:=K) hu) (pv 0) A6 (by ac_rfl))) (λ_ _ _ _=>(Al (i:=0) (by with_unfolding_all (show(["one","bits","name","reach"]:List Str).Nodup;decide +kernel)) ⋯ (by eq_refl))) (Cd ∅) (λ_ _ _ _=>(Qh (An (Pq (K:=K) hq) (pv 2) (Ak (A7 (K:=K) hu) (pv 3) (pv 0) (by ac_rfl)) ⋯))) (λ_ _ _ _=>(Ak (A7 (K:=K) hu) (pv 1) (pv 0) (by ac_rfl)))) A2)) ⋯)))
  (A5 (At (pv 3)))))),?_⟩
 symm
 refine⟨v,ns,ps,rfl,hI,hW,λr as H1 hr1 ha1 e1 hT=>?_⟩
 symm
 refine Wf λd H2 hd2 e2 h2=>?_
 symm
 have e12:=e1.trans e2;refine Kk (hI.hf_fz e12.fz) λnv hN=>?_
 refine Pk hN (λi σ H3=>∃ x4,σ=[some v,some (.ref bd),some (.ref r),some (.ref d),x4]/\Same H1 H3/\Fz H2 H3/\H3 d=some (.dK ((ns.take i).map λx=>((Sum.inr x:Key),V.int ((B4 ns (λy=>Be ps y x):Nat):Int)))))
  ⟨_,rfl,e2,.refl _,h2⟩ (λi σ' H' hP=>hP.choose_spec.2.2.1) (λi z σ' H3 hz hP=>?_) (fun σ' H3 hP=>?_)
 . obtain⟨x4,rfl,e3,fz3,h3⟩:=hP;have hin:i<ns.length:=(A00.mp hz).1
   have hno:z∉ns.take i:=λhm=>by
    obtain⟨j,hj⟩:=A1O.mp hm;rw[A44] at hj
    split at hj
    . rename_i hji;have a1:=A00.mp hj;have a2:=A00.mp hz;have:=(A1G hn).mp (a1.2.trans a2.2.symm);omega
    cases hj
   symm
   refine Kk (hI.hf_fz (e12.fz.trans fz3)) λnv3 hN3=>?_;refine Ux hN3 (λy=>Be ps y z) (λy=>PyData.int ((Fk ns y:Nat):Int)) (λ_=>rfl) nofun (λj y H4 R R' hy e4 hR hR'=>?_) (λq ys H4 hq4 e4 h4 hL4=>?_)
   . have hT4:=hT.same (e3.trans e4);obtain⟨jy,ay,hjy,hay⟩:=hT4.at (A04 hy);obtain⟨ks,hk1,hk2,hk3,hk4⟩:=hT4.row jy y ay hjy hay
     symm
     refine Qy hT4 hn hjy hay ?_;refine Rf hk1 ?_;rw[L1 (hk4 z)]
     symm
     refine ay0 (λhb=>?_) (λhb=>?_)
     . symm
       refine i_ixD (e4 _ _ (e3 _ _ (e1 _ _ hB))) (G8 (A04 hy)) ?_;exact hR hb _ _ (.refl _) rfl
     exact hR' hb _ (.refl _)
   have hm:(ns.filter λy=>Be ps y z).map (λy=>PyData.int ((Fk ns y:Nat):Int))=((ns.filter λy=>Be ps y z).map λy=>((Fk ns y:Nat):Int)).map PyData.int:=by rw[A1A];rfl
   rw[hm] at hL4;have hys:=IsL.int_eq hL4;subst hys
   symm
   refine aD3 (.inl (SqL.of h4)) (λn hn'=>?_) (by rw[A02];exact A0L (A1L _ _) nofun) ?_
   . obtain⟨y,hy,rfl⟩:=A0E.mp hn';have hyn:=(A15.mp hy).1;have:=ai7 hn h10 hyn;omega
   rw[Mg,Mi _ hn]
   symm
   have h4d:H4 d=some _:=e4 _ _ h3;refine Jo h4d (by rw[A02,A14];omega) λH5 e5 h5=>?_;rw[L6 _ (J4 hno)] at h5
   symm
   refine⟨_,rfl,(e3.trans e4).off hd2 e5,(fz3.trans e4.fz).trans (e5.fzD h4d),?_⟩;rw[h5,A0S,hz];simp
 obtain⟨x4,rfl,e3,fz3,h3⟩:=hP;rw[A11] at h3
 symm
 exact k d H3 (e1.free hd2) (e1.trans e3) h3
theorem T8 {f:Addr}{fd:FuncData}(F:Fun K "__init__" "Ways.__init__" Fc f fd)(T:Gg mg){C_Ways:Addr}(k_Ways:Go K C_Ways)(Mw:Fnd P w K mg base 1 "bits_of" ["names"] (Lx K))(J8:Fnd P w K mg base 2 "bits_ahead" ["half","bits"] (Hy K)):FnOk P w K mg base CX0 3 f fd ["self","half"] (Gw C_Ways K):=by
 refine F.ok Rt (λvs H Q E h=>?_) (λcdv A outer s H vs Q E hr h=>?_)
 . obtain⟨p,v,dx,ns,ps,rfl,_⟩:=h;rfl
 obtain⟨p,v,dx,ns,ps,rfl,hp,hI,hW,h10,k⟩:=h;have hu:=Cg hr;have hq:=Cf hr;have hn:=hW.nd
 with_reducible refine⟨_,(A3 (K4 (C:=C_Ways) (pv 0) (Ak (A7 (K:=K) hu) (pv 1) A6 (by ac_rfl)) k_Ways.cl k_Ways.n_names ⋯)
  (A3 (K4 (C:=C_Ways) (pv 0) (Ch Mw (hr.mono ∅) ⋯ (A1 (Ak (A7 (K:=K) hu) (pv 1) A6 (by ac_rfl)) A2)) k_Ways.cl k_Ways.n_bits ⋯)
  (A3 (K4 (C:=C_Ways) (pv 0) (Ch J8 (hr.mono ∅) ⋯ (A1 (pv 1) (A1 (Ds (C:=C_Ways) (pv 0) k_Ways.cl k_Ways.n_bits ⋯) A2))) k_Ways.cl k_Ways.n_ahead ⋯)
  (A3 (K4 (C:=C_Ways) (pv 0) (Ae (a77 ⋯) ⋯ T.b_sum PyProof.Rows.Boot.«sum» (A1 (Qg (K:=K) A37 PySem.F.slot_dict_values PySem.F.type_dict_values (mm Y2) (Ds (C:=C_Ways) (pv 0) k_Ways.cl k_Ways.n_bits ⋯)) A2)) k_Ways.cl k_Ways.n_full ⋯)
  (A5 (K4 (C:=C_Ways) (pv 0) (Nk (Gj A6 A6 Ny) ⋯ ⋯ ∅ ∅) k_Ways.cl k_Ways.n_known ⋯)))))),?_⟩
 symm
 refine Kk hI λnv hN=>?_
 symm
 refine ac4 hp ∅ λH1 e1 h1=>?_;replace h1:H1 p=some (.ins C_Ways dx [("names",nv)]):=h1;have fz1:=e1.fzI hp
 symm
 refine Kk (hI.hf_fz fz1) λnv1 hN1=>?_
 symm
 refine⟨nv1,ns,rfl,hN1,hn,h10,λbd H2 hb2 e2 h2=>?_⟩
 symm
 refine ac4 (e2 _ _ h1) (by show 1<1000;decide) λH3 e3 h3=>?_;rw[fld2] at h3;have fz3:=e3.fzI (e2 _ _ h1);have hbp:bd≠p:=(ne_of_none h1 hb2).symm;have h3b:H3 bd=some (.dK (aw4 ns)):=e3 _ _ hbp h2
 symm
 refine M6 h3 (by rfl) ?_
 symm
 refine⟨v,bd,ns,ps,rfl,hI.hf_fz ((fz1.trans e2.fz).trans fz3),hW,h10,h3b,λad H4 ha4 e4 h4=>?_⟩
 symm
 refine ac4 (e4 _ _ h3) (by show 2<1000;decide) λH5 e5 h5=>?_;rw[fld3] at h5;have fz5:=e5.fzI (e4 _ _ h3);have hap:ad≠p:=(ne_of_none h3 ha4).symm;have h5a:H5 ad=some (.dK (ahK ns ps)):=e5 _ _ hap h4;have h5b:H5 bd=some (.dK (aw4 ns)):=e5 _ _ hbp (e4 _ _ h3b)
 symm
 refine M6 h5 (by rfl) ?_
 symm
 refine ao5 h5b ?_
 symm
 refine aH9 h5b λv6 H6 hv6 e6 h6=>?_
 symm
 have hbs:∀ n∈ns.map (λx=>((Fk ns x:Nat):Int)),0<=n/\n<=1000000000000:=λn hn'=>by obtain⟨y,hy,rfl⟩:=A0E.mp hn';have:=ai7 hn h10 hy;omega
 refine aE4 h6 (e6 _ _ h5b) (ns:=ns.map λx=>((Fk ns x:Nat):Int)) (by unfold aw4;rw[List.map_map,List.map_map];rfl) hbs (by rw[List.length_map];omega) ?_
 have hsum:(ns.map (Fk ns)).sum=B4 ns (λ_=>true):=by have:=Mi (λ_=>true) hn;rwa[show ns.filter (λ_=>true)=ns by simp] at this
 rw[Mg,hsum]
 symm
 have h6p:=e6 _ _ h5;refine ac4 h6p (by show 3<1000;decide) λH7 e7 h7=>?_;rw[fld4] at h7;have fz7:=e7.fzI h6p
 symm
 refine Ru λkd H8 hk8 e8 h8=>?_
 symm
 refine Oa [(Sum.inl 0,V.int 1)] h8 rfl ∅ λH9 e9 h9=>?_
 symm
 have hkp:p≠kd:=ne_of_none h7 hk8;have h9p:=e9 _ _ hkp (e8 _ _ h7);refine ac4 h9p (by show 4<1000;decide) λH10 e10 h10'=>?_;rw[fld5] at h10';have fz10:=e10.fzI h9p
 symm
 have hpb:bd≠p:=hbp;have h7b:=e7 _ _ hbp (e6 _ _ h5b);have h7a:=e7 _ _ hap (e6 _ _ h5a);have hbk:bd≠kd:=ne_of_none h7b hk8;have hak:ad≠kd:=ne_of_none h7a hk8;have hE:ExtBut p H H7:=((((e1.same e2).trans e3).same e4).trans e5 |>.same e6).trans e7
 have hkH:H kd=none:=by
  cases c:H kd with
  |none=>rfl
  |some o=>rw[hE _ _ hkp.symm c] at hk8;cases hk8
 rw[Zv ns ps] at h9;refine k nv bd ad kd H10 hkH ?_ ⟨h10',?_,?_,?_,?_,hbk,hak,Zv ns ps ▸ Knw.new ns ps⟩
 . exact((hE.same e8).off hkH e9).trans e10
 . exact hN.nm_fz (((((((fz1.trans e2.fz).trans fz3).trans e4.fz).trans fz5).trans e6.fz).trans fz7).trans ((e8.fz.trans (e9.fzD h8)).trans fz10))
 . exact e10 _ _ hbp (e9 _ _ hbk (e8 _ _ h7b))
 . exact e10 _ _ hap (e9 _ _ hak (e8 _ _ h7a))
 exact e10 _ _ hkp.symm h9
theorem Km {f:Addr}{fd:FuncData}(F:Fun K "free_names" "Ways.free_names" Bm f fd)(T:Gg mg){C_Ways:Addr}(k_Ways:Go K C_Ways):FnOk P w K mg base CX0 1 f fd ["self","left"] (B8 C_Ways K):=by
 refine F.ok Ks (λvs H Q E h=>?_) (λcdv A outer s H vs Q E hr h=>?_)
 . obtain⟨p,dx,nv,bd,ad,kd,ns,ps,q,rfl,_⟩:=h;rfl
 obtain⟨p,dx,nv,bd,ad,kd,ns,ps,q,rfl,hA,hW,h10,k⟩:=h;have hu:=Cg hr;have hq:=Cf hr;have hn:=hW.nd
 with_reducible refine⟨_,(A5 (At (Dm ["name"] ["self","left"] [0,1] ⋯ ⋯ ⋯ (B3 (K:=K) hu (Ds (C:=C_Ways) (pv 0) k_Ways.cl k_Ways.n_names ⋯)) (λ_ _ _ _=>(Al (i:=0) (by with_unfolding_all (show(["name","self","left"]:List Str).Nodup;decide +kernel)) ⋯ (by eq_refl))) (Cd ∅) (λ_ _ _ _=>(Qh (PW.pt (Ph (a50 (Ar a08 (Ak (A7 (K:=K) hu) (Ds (C:=C_Ways) (pv 1) k_Ways.cl k_Ways.n_bits ⋯) (pv 0) (by ac_rfl)) (pv 2))) (R0 (Hf (a50 (Ar a08 (Ak (A7 (K:=K) hu) (Ds (C:=C_Ways) (pv 1) k_Ways.cl k_Ways.n_ahead ⋯) (pv 0) (by ac_rfl)) (pv 2))))))))) (λ_ _ _ _=>(pv 0))))),?_⟩
 symm
 refine M6 hA.ob (by rfl) ?_;refine Ux hA.nm (λx=>q x && !(ns.any λy=>Be ps y x&&q y)) PyData.str (λ_=>rfl) nofun (λj x H1 R R' hx e1 hR hR'=>?_) (λl ys H1 hl1 e1 h1 hL1=>?_)
 . have hA1:=hA.same e1;have hxn:=A04 hx
   symm
   refine M6 hA1.ob (by rfl) ?_
   symm
   refine i_ixD hA1.bt (G8 hxn) ?_
   symm
   rw[Zd hn hxn];refine ay0 (λhb=>?_) (λhb=>?_)
   . symm
     refine M6 hA1.ob (by rfl) ?_
     symm
     refine i_ixD hA1.ah (G8 hxn) ?_
     symm
     rw[a71]
     symm
     refine aJ9 (λhc=>?_) (λhc=>?_)
     . symm
       exact hR (by rw[hb,hc];rfl) _ _ (.refl _) Dp
     exact hR' (by rw[hb,hc];rfl) _ (.refl _)
   exact hR' (by rw[hb];rfl) _ (.refl _)
 rw[a83] at hL1;have:=IsL.str_eq hL1;subst this
 symm
 exact k l H1 hl1 e1 h1
theorem Md {f:Addr}{fd:FuncData}(F:Fun K "ways_on" "Ways.ways_on" C4 f fd)(T:Gg mg){C_Ways:Addr}(k_Ways:Go K C_Ways)(Aj:Mtd P w K mg base 1 C_Ways "free_names" ["self","left"] (B8 C_Ways K))(n:Nat)(Bj:Mtd P w K mg base (2+n) C_Ways "ways_on" ["self","left"] (Ci C_Ways K n)):FnOk P w K mg base CX0 (2+n+1) f fd ["self","left"] (Ci C_Ways K (n+1)):=by
 refine F.ok Nc (λvs H Q E h=>?_) (λcdv A outer s H vs Q E hr h=>?_)
 . obtain⟨p,dx,nv,bd,ad,kd,ns,ps,qs,q,rfl,_⟩:=h;rfl
 obtain⟨p,dx,nv,bd,ad,kd,ns,ps,qs,q,rfl,hA,hW,h10,hlt,k⟩:=h;have hu:=Cg hr;have hq:=Cf hr;have hn:=hW.nd;have hkl:=hA.ok.len h10;have hLn:(ns.filter q).Nodup:=A1Y A1T hn;have hLl:(ns.filter q).length<=ns.length:=A1L _ _
 with_reducible refine⟨_,(A3 (Cq (An (Gc (K:=K) hq) (pv 1) (Ds (C:=C_Ways) (pv 0) k_Ways.cl k_Ways.n_known ⋯) ⋯) (A5 (Gd hu (Ds (C:=C_Ways) (pv 0) k_Ways.cl k_Ways.n_known ⋯) (pv 1) (Ae (Te (K:=K) ⋯) ⋯ T.b_sum PyProof.Rows.Boot.«sum» (A1 (Dm ["name"] ["self","left"] [0,1] ⋯ ⋯ ⋯ (B3 (K:=K) hu (Uf (C:=C_Ways) (pv 0) k_Ways.cl Aj (hr.mono nofun) (A1 (pv 1) A2))) (λ_ _ _ _=>(Al (i:=0) (by with_unfolding_all (show(["name","self","left"]:List Str).Nodup;decide +kernel)) ⋯ (by eq_refl))) (Cd ∅) (λ_ _ _ _=>Dx) (λ_ _ _ _=>(Uf (C:=C_Ways) (pv 1) k_Ways.cl Bj (hr.mono nofun) (A1 (Ar Yl (pv 2) (Ak (A7 (K:=K) hu) (Ds (C:=C_Ways) (pv 1) k_Ways.cl k_Ways.n_bits ⋯) (pv 0) (by ac_rfl))) A2)))) A2)) ⋯)) Ax)
  (A5 (At (Ak (A7 (K:=K) hu) (Ds (C:=C_Ways) (pv 0) k_Ways.cl k_Ways.n_known ⋯) (pv 1) (by ac_rfl))))),?_⟩
 symm
 refine M6 hA.ob (by rfl) ?_;refine as5 hA.kn ?_
 symm
 cases hv:Dj (knK ns ps qs) (Sum.inl ((B4 ns q:Nat):Int):Key) with
 |some v=>
   have:=hA.ok.get hv;subst this;refine iteF ?_
   symm
   refine M6 hA.ob (by rfl) ?_
   symm
   refine W1 hA.kn hv ?_;exact k qs H .refl hA ⟨[],by simp,trivial,λM hM=>(by cases hM),ai0 hv⟩
 |none=>
   have hne:ns.filter q≠[]:=λe=>by
    have h0:B4 ns q=0:=binM_zero.mpr λx hx=>by
     cases c:q x with
     |false=>rfl
     |true=>
       have:x∈ns.filter q:=A15.mpr ⟨hx,c⟩;rw[e] at this
       cases this
    rw[h0] at hv;rw[show((0:Nat):Int)=0 from rfl,hA.ok.2.2] at hv
    cases hv
   refine iteT ?_
   symm
   refine au7 hA.ob (by rfl) ?_
   symm
   refine⟨p,dx,nv,bd,ad,kd,ns,ps,q,rfl,hA.b,hW,h10,λl H1 hl1 e1 h1=>?_⟩;have hA1:=hA.same e1;refine Zl (SqL.of h1) ?_
   refine Lm (Je (xs:=(frF (Be ps) (ns.filter q)).map V.str)) (λpl i acc H2=>∃ qs2,ExtBut kd H1 H2/\WaysAt K C_Ways H2 p dx nv bd ad kd ns ps (knK ns ps qs2)/\GrC ns ps qs qs2 (ns.filter q) i/\acc=((frF (Be ps) (ns.filter q)).take i).map λx=>V.int ((cnt (Be ps) (Ai (ns.filter q) x):Nat):Int))
    (λpl H' hp' e' h'=>⟨qs,e'.but,hA1.same e',.zero ..,rfl⟩) (λpl i acc H2 hP=>?_) (λpl i x acc H2 hpl hx hi hl hpa hP=>?_) (λpl acc H2 hpl hpa hal hP=>?_)
   . obtain⟨qs2,e2,_⟩:=hP;exact SqL.of (e2 _ _ (ne_of h1 hA1.kn (by intro z;cases z)) h1)
   . obtain ⟨qs2,e2,hA2,hG2,rfl⟩:=hP;rw[A08] at hx
     cases hz:(frF (Be ps) (ns.filter q))[i]? with
     |none=>rw[hz] at hx;cases hx
     |some z=>
       rw[hz] at hx
       cases hx;have hzf:=A04 hz;have hzL:=(mem_frF.mp hzf).1;have hzn:=(A15.mp hzL).1;have hqz:=(A15.mp hzL).2;have hsub:=Qf hn hzn hqz;have hlen:=Cj hLn hzL
       symm
       refine au7 hA2.ob (by rfl) ?_
       symm
       refine M6 hA2.ob (by rfl) ?_
       symm
       refine i_ixD hA2.bt (G8 hzn) ?_
       symm
       have hval:((B4 ns q:Nat):Int)-((Fk ns z:Nat):Int)=((B4 ns (λy=>q y && !decide (y=z)):Nat):Int):=by omega
       rw[hval];refine⟨p,dx,nv,bd,ad,kd,ns,ps,qs2,_,rfl,hA2,hW,h10,by rw[Du];omega,λqs3 H3 e3 hA3 hG3=>?_⟩;rw[Du];have hplk:pl≠kd:=ne_of hpa hA2.kn (by intro z;cases z);have h3p:=e3 _ _ hplk hpa;refine Pw (by rw[A02];exact A0L (A1L _ _) nofun) hi hl h3p λH4 e4 h4=>?_;refine⟨qs3,?_,hA3.list e4 h3p,hG2.step hLn hz (Du ..) hG3,?_⟩
       . exact(e2.trans e3).off hpl e4
       rw[A0S,hz];simp
   obtain⟨qs2,e2,hA2,hG2,rfl⟩:=hP;rw[A02,A11] at hpa;have hmm:(frF (Be ps) (ns.filter q)).map (λx=>V.int ((cnt (Be ps) (Ai (ns.filter q) x):Nat):Int))=((frF (Be ps) (ns.filter q)).map λx=>((cnt (Be ps) (Ai (ns.filter q) x):Nat):Int)).map V.int:=by rw[A1A];rfl
   rw[hmm] at hpa
   symm
   refine aD3 (.inl (SqL.of hpa)) (λn' hn'=>?_) (by rw[A02];exact A0L (A1L _ _) nofun) ?_
   . obtain⟨y,hy,rfl⟩:=A0E.mp hn';have:=Cj hLn (mem_frF.mp hy).1;have:=as0 (b:=Be ps) (Cs hLn y) nofun;omega
   rw[Mg,<- a44 hLn hne]
   symm
   refine M6 hA2.ob (by rfl) ?_
   symm
   have hkl2:=hA2.ok.len h10;refine a84 hA2.kn nofun λH3 e3 h3=>?_;have hno:=hG2.no (λz=>by rw[Vd z] at hv;cases hv);have hA3:=hA2.put e3 h3 (hA2.ok.put q);rw[az9 hno] at hA3
   symm
   refine M6 hA3.ob (by rfl) ?_
   symm
   refine W1 hA3.kn (Vd (by rw[Ct];simp[Br])) ?_;rw[A02] at hG2;exact k _ H3 (((e1.but (d:=kd)).trans e2).trans e3) hA3 hG2.close
theorem Mq {f:Addr}{fd:FuncData}(F:Fun K "ways_on" "Ways.ways_on" C4 f fd)(T:Gg mg){C_Ways:Addr}(k_Ways:Go K C_Ways)(Aj:Mtd P w K mg base 1 C_Ways "free_names" ["self","left"] (B8 C_Ways K))(hm:ax4 K C_Ways "ways_on" f)(hb:Binds K fd ["self","left"] []):FnOk P w K mg base CX0 13 f fd ["self","left"] (En C_Ways K):=by
 have h:∀ n:Nat,FnOk P w K mg base CX0 (2+n) f fd ["self","left"] (Ci C_Ways K n):=λn=>by
  induction n with
  |zero=>exact FnOk.void Jd
  |succ n ih=>exact Md F T k_Ways Aj n ⟨f,fd,ih,hm,hb⟩
 exact h 11
theorem af8 {f:Addr}{fd:FuncData}(F:Fun K "count" "count" Lq f fd)(T:Gg mg){C_Ways:Addr}(k_Ways:Go K C_Ways)(Fa:Mkd P w K mg base 3 C_Ways "Ways" ["self","half"] (Gw C_Ways K))(Bj:Mtd P w K mg base 13 C_Ways "ways_on" ["self","left"] (En C_Ways K)):FnOk P w K mg base CX0 14 f fd ["half"] (R9 K):=by
 refine F.ok W7 (λvs H Q E h=>?_) (λcdv A outer s H vs Q E hr h=>?_)
 . obtain⟨v,ns,ps,rfl,_⟩:=h;rfl
 obtain⟨v,ns,ps,rfl,hI,hW,h10,k⟩:=h;have hu:=Cg hr;have hq:=Cf hr
 with_reducible refine⟨_,(A3 (Ad (i:=1) W7.nd ⋯ (by eq_refl) (ap0 Fa (hr.mono ∅) ⋯ (A1 (pv 0) A2)))
  (A5 (At (Uf (C:=C_Ways) (pv 1) k_Ways.cl Bj (hr.mono ∅) (A1 (Ds (C:=C_Ways) (pv 1) k_Ways.cl k_Ways.n_full ⋯) A2))))),?_⟩
 symm
 refine aQ0 λp dx H1 hp1 e1 h1=>?_;refine⟨p,v,dx,ns,ps,rfl,h1,hI.hf_fz e1.fz,hW,h10,λnv bd ad kd H2 hk2 e2 hA=>⟨rfl,?_⟩⟩
 symm
 refine au7 hA.ob (by rfl) ?_
 symm
 refine M6 hA.ob (by rfl) ?_
 symm
 have hfl:ns.filter (λ_=>true)=ns:=by simp
 refine⟨p,dx,nv,bd,ad,kd,ns,ps,_,λ_=>true,rfl,hA,hW,h10,by rw[hfl];omega,λqs' H3 e3 hA3 _=>?_⟩;rw[hfl];exact k H3 ((e1.off hp1 e2).off (e1.free hk2) e3)
def Hl (C:Addr)(K:W.Frag):Sp:=λvs H Q _=>∃ p dx nv bd ad kd ns ps qs,vs=[.ref p]/\WaysAt K C H p dx nv bd ad kd ns ps (knK ns ps qs)/\Pa ns ps/\ns.length<=10/\Gr ns ps [λ_=>false] qs (λ_=>true) /\
 ∀ d ct H',H d=none->Same H H'->H' d=some (.dK (Ip ns ct))->Qz ns ct->CmI ns ps (Br ns qs) (Br ns qs) ct->Q (.ref d) H'
theorem R4 {f:Addr}{fd:FuncData}(F:Fun K "comings_of" "comings_of" Dy f fd)(T:Gg mg){C_Ways:Addr}(k_Ways:Go K C_Ways)(Aj:Mtd P w K mg base 1 C_Ways "free_names" ["self","left"] (B8 C_Ways K)):FnOk P w K mg base CX0 2 f fd ["ways"] (Hl C_Ways K):=by
 refine F.ok Ep (λvs H Q E h=>?_) (λcdv A outer s H vs Q E hr h=>?_)
 . obtain⟨p,dx,nv,bd,ad,kd,ns,ps,qs,rfl,_⟩:=h;rfl
 obtain⟨p,dx,nv,bd,ad,kd,ns,ps,qs,rfl,hA,hW,h10,hG,k⟩:=h;have hu:=Cg hr;have hq:=Cf hr;have hn:=hW.nd;have hnd:=hA.ok.tt;have hkl:=hA.ok.len h10
 have hT0:ns∈Br ns qs:=by obtain⟨new,_,_,_,h⟩:=hG;rwa[show ns.filter (λ_=>true)=ns by simp] at h
 with_reducible refine⟨_,(A3 (Ad (i:=1) Ep.nd ⋯ (by eq_refl) (Nk (Gj (Ds (C:=C_Ways) (pv 0) k_Ways.cl k_Ways.n_full ⋯) A6 Ny) ⋯ ⋯ ∅ ∅))
  (A3 (Eo A17 ⋯ (am9 (K:=K) ⋯ T.b_reversed (A1 (As (Pm ⋯) ⋯ T.b_list PyProof.Rows.Boot.«list» (A1 (Ds (C:=C_Ways) (pv 0) k_Ways.cl k_Ways.n_known ⋯) A2)) A2)) (Al (i:=2) Ep.nd ⋯ (by eq_refl))
  (A5 (Eo A17 ⋯ (B3 (K:=K) hu (Uf (C:=C_Ways) (pv 0) k_Ways.cl Aj (hr.mono ∅) (A1 (pv 2) A2))) (Al (i:=3) Ep.nd ⋯ (by eq_refl))
  (A3 (Ad (i:=4) Ep.nd ⋯ (by eq_refl) (Ar Yl (pv 2) (Ak (A7 (K:=K) hu) (Ds (C:=C_Ways) (pv 0) k_Ways.cl k_Ways.n_bits ⋯) (pv 3) (by ac_rfl))))
  (A5 (Gd hu (pv 1) (pv 4) (Ar (Am (K:=K)) (ad1 hu (pv 1) (pv 4) A6 (by with_unfolding_all exact⟨rfl,rfl,rfl,rfl⟩)) (Ak (A7 (K:=K) hu) (pv 1) (pv 2) (by ac_rfl))) ⋯))))))
  (A5 (At (pv 1))))),?_⟩
 symm
 refine Ru λd H1 hd1 e1 h1=>?_;have hA1:=hA.same e1
 symm
 refine M6 hA1.ob (by rfl) ?_
 symm
 refine Oa [(Sum.inl ((B4 ns (λ_=>true):Nat):Int),V.int 1)] h1 rfl (by show 1<=15;decide) λH2 e2 h2=>?_;have e02:Same H H2:=e1.off hd1 e2;have hA2:=hA.same e02
 symm
 refine an9 ?_
 symm
 refine M6 hA2.ob (by rfl) ?_
 symm
 refine Y0 hA2.kn nofun λl H3 hl3 e3 h3=>?_
 have hl:((knK ns ps qs).map λkv=>kV kv.1)=qs.map λq=>V.int ((B4 ns q:Nat):Int):=by unfold knK;rw[A1A];rfl
 rw[hl] at h3
 symm
 refine aE9 (SqL.of h3) ?_;have hdb:bd≠d:=ne_of_none hA.bt hd1;have hda:ad≠d:=ne_of_none hA.ah hd1;have hdp:p≠d:=ne_of_none hA.ob hd1;have hld:l≠d:=(ne_of_none h2 hl3).symm
 refine Iw a05 (λi σ H4=>∃ x2 x3 x4 ct,σ=[some (.ref p),some (.ref d),x2,x3,x4]/\Same H H4/\H4 l=some (.lst (qs.map λq=>V.int ((B4 ns q:Nat):Int)))/\WaysB K C_Ways H4 p dx nv bd ad kd ns ps/\H4 d=some (.dK (Ip ns ct))/\Qz ns ct/\CmI ns ps (Br ns qs) ((Br ns qs).reverse.take i).reverse ct)
  ⟨_,_,_,[(λ_=>true,1)],rfl,e02.trans e3,h3,(hA2.same e3).b,e3 _ _ h2,by unfold Qz Ip;simp,by rw[List.take_zero,List.reverse_nil];exact .start hT0⟩ (λi σ' H' hP=>?_) (λi x σ' H4 hx hi hP=>?_) (fun σ' H4 hP=>?_)
 . obtain⟨_,_,_,_,_,_,h,_⟩:=hP;exact SqL.of h
 . obtain ⟨x2,x3,x4,ct1,rfl,e4,h4l,hB4,h4d,hO1,hI1⟩:=hP;rw[<- List.map_reverse,A08] at hx
   cases he:qs.reverse[i]? with
   |none=>rw[he] at hx;cases hx
   |some e=>
     rw[he] at hx
     cases hx
     have hM:(Br ns qs).reverse[i]? = some (ns.filter e):=by unfold Br;rw[<- List.map_reverse,A08,he];rfl
     obtain⟨A0,hsp⟩:=Y1 hM;have hat:=aK4 hG hsp;have hLn:(ns.filter e).Nodup:=A1Y A1T hn
     symm
     refine au7 hB4.ob (by rfl) ?_
     symm
     refine⟨p,dx,nv,bd,ad,kd,ns,ps,e,rfl,hB4,hW,h10,λl5 H5 hl5 e5 h5=>?_⟩;refine Zl (SqL.of h5) ?_;have hl5d:l5≠d:=(ne_of_none h4d hl5).symm
     refine Iw (Je (xs:=(frF (Be ps) (ns.filter e)).map V.str)) (λm σ H6=>∃ y3 y4 ct2,σ=[some (.ref p),some (.ref d),some (.int ((B4 ns e:Nat):Int)),y3,y4]/\Same H H6/\H6 l=some (.lst (qs.map λq=>V.int ((B4 ns q:Nat):Int)))/\H6 l5=some (.lst ((frF (Be ps) (ns.filter e)).map V.str))/\WaysB K C_Ways H6 p dx nv bd ad kd ns ps/\H6 d=some (.dK (Ip ns ct2))/\Qz ns ct2/\CmJ ns ps (ns.filter e) m ct1 ct2)
      ⟨_,_,ct1,rfl,e4.trans e5,e5 _ _ h4l,h5,hB4.same e5,e5 _ _ h4d,hO1,.zero ..⟩ (λm σ' H' hP=>?_) (λm x6 σ' H6 hx6 hm hP=>?_) (fun σ' H6 hP=>?_)
     . obtain⟨_,_,_,_,_,_,h,_⟩:=hP;exact SqL.of h
     . obtain ⟨y3,y4,ct2,rfl,e6,h6l,h6f,hB6,h6d,hO2,hJ2⟩:=hP;rw[A08] at hx6
       cases hz:(frF (Be ps) (ns.filter e))[m]? with
       |none=>rw[hz] at hx6;cases hx6
       |some z=>
         rw[hz] at hx6
         cases hx6;have hzf:=A04 hz;have hzL:=(mem_frF.mp hzf).1;have hzn:=(A15.mp hzL).1;have hsub:=Qf hn hzn (A15.mp hzL).2;have hval:((B4 ns e:Nat):Int)-((Fk ns z:Nat):Int)=((B4 ns (λy=>e y && !decide (y=z)):Nat):Int):=by omega
         have hMk:ns.filter e∈Hc ns ct1:=by
          rcases hat with q|⟨_,q|⟨N,hN,x,hx,q⟩⟩
          . rw[q] at hzf;cases hzf
          . rw[q];exact hI1.k2
          rw[q];exact hI1.k3 N hN x hx
         have hMk2:ns.filter e∈Hc ns ct2:=(hJ2.ks _).mpr (.inl hMk);obtain⟨k0,ct3,g1,g2,g3,g4,g5⟩:=a60 ns (λy=>e y && !decide (y=z)) (Hk ns (ind (ns.filter e)) ct2) hO2;have hl2:=ar8 hO2 h10
         symm
         refine M6 hB6.ob (by rfl) ?_
         symm
         refine i_ixD hB6.bt (G8 hzn) ?_
         symm
         rw[hval];refine ad3 h6d ?_
         symm
         refine⟨_,DGet.k (k:=Sum.inl _) h6d,?_⟩;rw[g1]
         symm
         refine W1 h6d (Ts hO2 hMk2) ?_
         symm
         refine a84 h6d (by unfold Ip;rw[List.length_map];omega) λH7 e7 h7=>?_
         symm
         refine⟨_,_,ct3,rfl,e6.off hd1 e7,e7 _ _ hld h6l,e7 _ _ hl5d h6f,hB6.of (e7.fzD h6d) (λb o hb q=>e7 _ _ (by rcases hb with rfl|rfl|rfl;exact hdp;exact hdb;exact hda) q),?_,g4,hJ2.step hz (Du ..) g3 g5⟩
         rw[h7,g2];rfl
     obtain⟨y3,y4,ct2,rfl,e6,h6l,h6f,hB6,h6d,hO2,hJ2⟩:=hP;rw[A02] at hJ2;refine⟨_,_,_,ct2,rfl,e6,h6l,hB6,h6d,hO2,?_⟩;rw[aa6 hM];refine hI1.step hsp hnd hLn ?_ hJ2;rcases hat with q|⟨q,_⟩
     . rw[q];intro x hx
       cases hx
     exact q
 obtain⟨x2,x3,x4,ct1,rfl,e4,h4l,hB4,h4d,hO1,hI1⟩:=hP;rw[List.length_reverse,List.length_map,show qs.length=(Br ns qs).reverse.length by unfold Br;rw[List.length_reverse,List.length_map],List.take_length,List.reverse_reverse] at hI1
 symm
 exact k d ct1 H4 hd1 e4 h4d hO1 hI1
structure Shr (K:W.Frag)(C:Addr)(H0 H:Hp)(o:Obj)(p dx:Addr)(nv:V)(bd ad kd cd fd:Addr)(ns:List Str)(ps:List (Str×Str))(qs:List (Str->Bool))(ct:List ((Str->Bool)×Nat))(as:List Addr)(f:Str->Str->Nat):Prop where
 sm:Same H0 H
 kn:H kd=some (.frz o (.dK (knK ns ps qs)))
 wb:WaysB K C H p dx nv bd ad kd ns ps
 cm:H cd=some (.dK (Ip ns ct))
 tb:TabN H fd ns as f
 fr:∀ a∈as,H0 a=none
 ne:∀ a∈as,a≠kd/\a≠p/\a≠bd/\a≠ad/\a≠cd
theorem Shr.same {K:W.Frag}{C:Addr}{H0 H H':Hp}{o:Obj}{p dx:Addr}{nv:V}{bd ad kd cd fd:Addr}{ns:List Str}{ps:List (Str×Str)}{qs:List (Str->Bool)}{ct:List ((Str->Bool)×Nat)}{as:List Addr}{f:Str->Str->Nat}(h:Shr K C H0 H o p dx nv bd ad kd cd fd ns ps qs ct as f)(e:Same H H'):Shr K C H0 H' o p dx nv bd ad kd cd fd ns ps qs ct as f:=
 ⟨h.sm.trans e,e _ _ h.kn,h.wb.same e,e _ _ h.cm,h.tb.same e,h.fr,h.ne⟩
theorem Shr.put {K:W.Frag}{C:Addr}{H0 H H':Hp}{o:Obj}{p dx:Addr}{nv:V}{bd ad kd cd fd:Addr}{ns:List Str}{ps:List (Str×Str)}{qs:List (Str->Bool)}{ct:List ((Str->Bool)×Nat)}{as:List Addr}{f:Str->Str->Nat}(h:Shr K C H0 H o p dx nv bd ad kd cd fd ns ps qs ct as f)(hn:ns.Nodup){j:Nat}{x z:Str}{m:Nat}{a:Addr}(hj:ns[j]? = some x)(ha:as[j]? = some a)(hz:z∈ns)(e:ExtBut a H H')(h':H' a=some (.dK (Fs (Tq ns (f x)) (Sum.inr z:Key) (.int ((m:Nat):Int))))) :
  Shr K C H0 H' o p dx nv bd ad kd cd fd ns ps qs ct as λx' y=>if x'=x/\y=z then m else f x' y:=by
 have ham:=A04 ha;obtain⟨n1,n2,n3,n4,n5⟩:=h.ne a ham;exact⟨h.sm.off (h.fr a ham) e,e _ _ n1.symm h.kn,h.wb.of (e.fzD (h.tb.row j x a hj ha)) (λb o' hb q=>e _ _ (by rcases hb with rfl|rfl|rfl;exact n2.symm;exact n3.symm;exact n4.symm) q),e _ _ n5.symm h.cm,h.tb.put hn hj ha hz e h',h.fr,h.ne⟩
def J6 (K:W.Frag):Sp:=λvs H Q _=>∃ v ns ps,vs=[v]/\Is K H (hfD ns ps) v/\HalfW ns ps/\ns.length<=10/\∀ fd as f H',Same H H'->TabN H' fd ns as f->(∀ x∈ns,∀ y∈ns,x≠y->f x y=cnt (Be (ps++[(x,y)])) ns)->Q (.ref fd) H'
theorem Tf {f:Addr}{fd:FuncData}(F:Fun K "shares_of" "shares_of" Fd f fd)(T:Gg mg){C_Ways:Addr}(k_Ways:Go K C_Ways)(J1:Fnd P w K mg base 2 "comings_of" ["ways"] (Hl C_Ways K))(Fa:Mkd P w K mg base 3 C_Ways "Ways" ["self","half"] (Gw C_Ways K))(Aj:Mtd P w K mg base 1 C_Ways "free_names" ["self","left"] (B8 C_Ways K))(Bj:Mtd P w K mg base 13 C_Ways "ways_on" ["self","left"] (En C_Ways K)):FnOk P w K mg base CX0 14 f fd ["half"] (J6 K):=by
 refine F.ok Bz (λvs H Q E h=>?_) (λcdv A outer s H vs Q E hr h=>?_)
 . obtain⟨v,ns,ps,rfl,_⟩:=h;rfl
 obtain⟨v,ns,ps,rfl,hI,hW,h10,k⟩:=h;have hu:=Cg hr;have hq:=Cf hr;have hn:=hW.nd
 with_reducible refine⟨_,(A3 (Ad (i:=1) Bz.nd ⋯ (by eq_refl) (ap0 Fa (hr.mono ∅) ⋯ (A1 (pv 0) A2)))
  (A3 (Bs (Uf (C:=C_Ways) (pv 1) k_Ways.cl Bj (hr.mono ∅) (A1 (Ds (C:=C_Ways) (pv 1) k_Ways.cl k_Ways.n_full ⋯) A2)))
  (A3 (Ad (i:=2) Bz.nd ⋯ (by eq_refl) (Ch J1 (hr.mono ∅) ⋯ (A1 (pv 1) A2)))
  (A3 (Ad (i:=3) Bz.nd ⋯ (by eq_refl) (As (Lw (K:=K) hr.hd) ⋯ T.b_dict PyProof.Rows.Boot.«dict» (A1 (Dm ["one"] ["half"] [0] ⋯ ⋯ ⋯ (B3 (K:=K) hu (Ak (A7 (K:=K) hu) (pv 0) A6 (by ac_rfl))) (λ_ _ _ _=>(Al (i:=0) (by with_unfolding_all (show(["one","half"]:List Str).Nodup;decide +kernel)) ⋯ (by eq_refl))) (Cd ∅) (λ_ _ _ _=>Dx) (λ_ _ _ _=>(B0 (A1 (pv 0) (A1 (As (Lw (K:=K) hr.hd) ⋯ T.b_dict PyProof.Rows.Boot.«dict» (A1 (Dm ["other"] [] [] ⋯ ⋯ ⋯ (B3 (K:=K) hu (Ak (A7 (K:=K) hu) (pv 1) A6 (by ac_rfl))) (λ_ _ _ _=>(Al (i:=0) (by with_unfolding_all (show(["other"]:List Str).Nodup;decide +kernel)) ⋯ (by eq_refl))) (Cd ∅) (λ_ _ _ _=>Dx) (λ_ _ _ _=>(B0 (A1 (pv 0) (A1 A6 A2))))) A2)) A2))))) A2)))
  (A3 (Eo A17 ⋯ (B3 (K:=K) hu (Ds (C:=C_Ways) (pv 1) k_Ways.cl k_Ways.n_known ⋯)) (Al (i:=4) Bz.nd ⋯ (by eq_refl))
  (A5 (Eo A17 ⋯ (B3 (K:=K) hu (Uf (C:=C_Ways) (pv 1) k_Ways.cl Aj (hr.mono ∅) (A1 (pv 4) A2))) (Al (i:=5) Bz.nd ⋯ (by eq_refl))
  (A3 (Ad (i:=6) Bz.nd ⋯ (by eq_refl) (Ar Yl (pv 4) (Ak (A7 (K:=K) hu) (Ds (C:=C_Ways) (pv 1) k_Ways.cl k_Ways.n_bits ⋯) (pv 5) (by ac_rfl))))
  (A3 (Ad (i:=7) Bz.nd ⋯ (by eq_refl) (Ar Fm (Ak (A7 (K:=K) hu) (pv 2) (pv 4) (by ac_rfl)) (Ak (A7 (K:=K) hu) (Ds (C:=C_Ways) (pv 1) k_Ways.cl k_Ways.n_known ⋯) (pv 6) (by ac_rfl))))
  (A5 (Eo A17 ⋯ (B3 (K:=K) hu (Ak (A7 (K:=K) hu) (pv 0) A6 (by ac_rfl))) (Al (i:=8) Bz.nd ⋯ (by eq_refl))
  (A5 (Cq (a50 (Ar a08 (Ak (A7 (K:=K) hu) (Ds (C:=C_Ways) (pv 1) k_Ways.cl k_Ways.n_bits ⋯) (pv 8) (by ac_rfl)) (pv 6))) (A5 (Gd hu (Ak (A7 (K:=K) hu) (pv 3) (pv 5) (by ac_rfl)) (pv 8) (Ar (Am (K:=K)) (Ak (A7 (K:=K) hu) (Ak (A7 (K:=K) hu) (pv 3) (pv 5) (by ac_rfl)) (pv 8) (by ac_rfl)) (pv 7)) ⋯)) Ax)))))))))
  (A5 (At (pv 3)))))))),?_⟩
 symm
 refine aQ0 λp dx H1 hp1 e1 h1=>?_;refine⟨p,v,dx,ns,ps,rfl,h1,hI.hf_fz e1.fz,hW,h10,λnv bd ad kd H2 hk2 e2 hA=>⟨rfl,?_⟩⟩
 symm
 refine au7 hA.ob (by rfl) ?_
 symm
 refine M6 hA.ob (by rfl) ?_
 symm
 have hfl:ns.filter (λ_=>true)=ns:=by simp
 refine⟨p,dx,nv,bd,ad,kd,ns,ps,_,λ_=>true,rfl,hA,hW,h10,by rw[hfl];omega,λqs H3 e3 hA3 hG=>?_⟩
 symm
 refine⟨p,dx,nv,bd,ad,kd,ns,ps,qs,rfl,hA3,hW,h10,hG,λcd ct H4 hcd e4 h4 hO hC=>?_⟩;have hkH:H kd=none:=e1.free hk2;have e03:Same H H3:=(e1.off hp1 e2).off hkH e3;have e04:=e03.trans e4;have hA4:=hA3.same e4;have hnd:=hA4.ok.tt;have hkl:=hA4.ok.len h10;have hc3:H cd=none:=e03.free hcd;have hckd:cd≠kd:=(ne_of_none hA3.kn hcd).symm;clear e3 hA e2 h1 hA3
 symm
 refine Kk (hI.hf_fz e04.fz) λnv5 hN5=>?_;obtain⟨na,rfl,hS⟩:=hN5.nm;refine Nf hS ?_
 refine Lm (Er (xs:=ns.map V.str)) (λq i acc H5=>Same H4 H5/\∃ as:List Addr,as.length=i/\as.Nodup/\(∀ a∈as,H5 a=some (.dK (Tq ns λ_=>0))/\H4 a=none)/\PrsK K H5 (Jh (ns.take i) as) acc)
  (λq H' hp e h=>⟨e,[],rfl,by simp,λ_ h=>(by cases h),by rfl⟩) (λq i acc H5 hP=>hP.1.seqT hS) (λq i x acc H5 hq5 hx hi hl ha hP=>?_) (λq acc H5 hq5 ha hal hP=>?_)
 . obtain ⟨e5,as,hal,had,haf,hpr⟩:=hP;rw[A08] at hx
   cases hz:ns[i]? with
   |none=>rw[hz] at hx;cases hx
   |some z=>
     rw[hz] at hx
     cases hx;have hin:i<ns.length:=(A00.mp hz).1
     symm
     refine Kk (hI.hf_fz (e04.trans e5).fz) λnv6 hN6=>?_;obtain⟨na6,rfl,hS6⟩:=hN6.nm;refine Nf hS6 ?_
     refine Lm (Er (xs:=ns.map V.str)) (λq6 i6 acc6 H6=>Same H5 H6/\PrsK K H6 (Tq (ns.take i6) λ_=>0) acc6)
      (λq6 H' hp e h=>⟨e,by rfl⟩) (λq6 i6 acc6 H6 hP=>hP.1.seqT hS6) (λq6 i6 x6 acc6 H6 hq6 hx6 hi6 hl6 ha6 hP=>?_) (λq6 acc6 H6 hq6 ha6 hal6 hP=>?_)
     . obtain ⟨e6,hpr6⟩:=hP;rw[A08] at hx6
       cases hz6:ns[i6]? with
       |none=>rw[hz6] at hx6;cases hx6
       |some z6=>
         rw[hz6] at hx6
         cases hx6
         symm
         refine B7 (A8 (by simp)) λt H7 ht7 e7 h7=>?_;have h7p:H7 q6=some (.lst acc6):=e7 _ _ ha6;refine Pw (by rw[A02];omega) hi6 hl6 h7p λH8 e8 h8=>?_;have fz8:=e8.fzL h7p;refine⟨(e6.trans e7).off hq6 e8,?_⟩;rw[show Tq (ns.take (i6+1)) (λ_=>0)=Tq (ns.take i6) (λ_=>0)++[(Sum.inr z6,V.int 0)] by unfold Tq;rw[List.take_add_one,hz6,List.map_append];rfl];exact PrsK.snoc (kv:=(Sum.inr z6,V.int 0)) (fz8.seq (SqT.of h7)) (PrsK.fz (e7.fz.trans fz8) hpr6)
     obtain⟨e6,hpr6⟩:=hP;rw[A02,A11] at hpr6
     symm
     refine Z0 ha6 hpr6 (by unfold Tq;rw[List.length_map];omega) λb H7 hb7 e7 h7=>?_;rw[Kz _ _ (a66 hn _) (λ_ _ _ h=>by cases h),A4N] at h7
     symm
     refine B7 (A8 (by simp)) λt H8 ht8 e8 h8=>?_;have e58:=(e6.trans e7).trans e8;have h8q:H8 q=some (.lst acc):=e58 _ _ ha;refine Pw (by rw[A02];omega) hi hl h8q λH9 e9 h9=>?_;have hbq:b≠q:=Ne.symm (ne_of_none (e6 _ _ ha) hb7);have fz9:=e9.fzL h8q;refine⟨(e5.trans e58).off hq5 e9,as++[b],by simp[hal],?_,λa ha'=>?_,?_⟩
     . rw[A1S];refine⟨had,by simp,λa ha1 c hc e=>?_⟩;have:c=b:=by simpa using hc
       subst this;subst e;have:=e6 _ _ (haf _ ha1).1;rw[hb7] at this
       cases this
     . rcases A0G.mp ha' with ha'|ha'
       . obtain⟨q1,q2⟩:=haf a ha';exact⟨e9 _ _ (ne_of q1 ha (by intro z;cases z)) (e58 _ _ q1),q2⟩
       have:a=b:=by simpa using ha'
       subst this;exact⟨e9 _ _ hbq (e8 _ _ h7),e5.free (e6.free hb7)⟩
     have ht:ns.take (i+1)=ns.take i++[z]:=by rw[A0S,hz];rfl
     have hlen:(ns.take i).length=as.length:=by rw[A14,hal];omega
     rw[ht,R8 hlen];exact PrsK.snoc (kv:=(Sum.inr z,V.ref b)) (fz9.seq (SqT.of h8)) (PrsK.fz (e58.fz.trans fz9) hpr)
 obtain⟨e5,as,hal5,had,haf,hpr⟩:=hP;rw[A02] at hal5;rw[A02,A11] at hpr
 symm
 refine Z0 ha hpr (by unfold Jh;rw[List.length_map,List.length_zip];omega) λfd H6 hf6 e6 h6=>?_;rw[Kz _ _ (Qe hn) (λ_ _ _ h=>by cases h),A4N] at h6;have hf4:H4 fd=none:=e5.free hf6
 have hfa:fd∉as:=λhm=>by
  have:=(haf fd hm).1;rw[hf6] at this
  cases this
 have hT6:TabN H6 fd ns as (λ_ _=>0):=⟨hal5,had,hfa,h6,λj x a _ ha'=>e6 _ _ (haf a (A04 ha')).1⟩
 have hnew:∀ b,b=fd\/b∈as->H4 b=none:=λb hb=>by
  rcases hb with rfl|hb
  . exact hf4
  exact(haf b hb).2
 have e46:=e5.trans e6;have hA6:=hA4.same e46;have h6c:=e46 _ _ h4
 symm
 refine M6 hA6.ob (by rfl) ?_;refine ao3 (as:=[kd]) (.inl hA6.kn) (by simp) λo H7 k7 h7k=>?_;have hpk:p≠kd:=ne_of hA6.ob hA6.kn (by intro z;cases z);have hW7:WaysB K C_Ways H7 p dx nv bd ad kd ns ps:=hA6.b.of k7.fz λb o' hb q=>k7.1 b o' (by rcases hb with rfl|rfl|rfl<;>simp[hpk,hA6.nb,hA6.na]) q
 have hkas:∀ b,b=fd\/b∈as->b≠kd:=λb hb z=>by
  have:=hnew b hb;rw[z,hA4.kn] at this
  cases this
 have hT7:TabN H7 fd ns as (λ_ _=>0):=hT6.of λb o' hb q=>k7.1 b o' (by simpa using hkas b hb) q;have h7c:H7 cd=some (.dK (Ip ns ct)):=k7.1 _ _ (by simpa using hckd) h6c;have e07:Same H H7:=λb o' q=>k7.1 b o' (by simpa using ne_of_none q hkH) (e46 _ _ (e04 _ _ q));have hcas:cd≠fd/\cd∉as:=⟨λz=>(by rw[z,hf4] at h4;cases h4),λz=>(by rw[(haf cd z).2] at h4;cases h4)⟩
 have hW4:∀ b,b=p\/b=bd\/b=ad->∃ o',H4 b=some o':=λb hb=>by
  rcases hb with rfl|rfl|rfl
  . exact⟨_,hA4.ob⟩
  . exact⟨_,hA4.bt⟩
  exact⟨_,hA4.ah⟩
 have hS7:Shr K C_Ways H H7 o p dx nv bd ad kd cd fd ns ps qs ct as (λ_ _=>0):=⟨e07,h7k,hW7,h7c,hT7,λa ha=>e04.free (haf a ha).2,λa ha=>by have h4a:=(haf a ha).2;exact⟨hkas a (.inr ha),(ne_of_none hA4.ob h4a).symm,(ne_of_none hA4.bt h4a).symm,(ne_of_none hA4.ah h4a).symm,(ne_of_none h4 h4a).symm⟩⟩
 have hl:((knK ns ps qs).map λkv=>kV kv.1)=qs.map λq=>V.int ((B4 ns q:Nat):Int):=by unfold knK;rw[A1A];rfl
 clear hW7 hT7 h7k h7c e07 hA6 hT6 h6 h6c haf hpr
 refine Iw a54 (λi σ H8=>∃ x4 x5 x6 x7 x8 f,σ=[some v,some (.ref p),some (.ref cd),some (.ref fd),x4,x5,x6,x7,x8]/\Shr K C_Ways H H8 o p dx nv bd ad kd cd fd ns ps qs ct as f/\∀ x∈ns,∀ y∈ns,f x y=(((Br ns qs).take i).map λL=>Hk ns (ind L) ct*ah9 (Be ps) x y L).sum)
  ⟨_,_,_,_,_,_,rfl,hS7,λx _ y _=>rfl⟩ (λi σ' H' hP=>?_) (λi x σ' H8 hx hi hP=>?_) (fun σ' H8 hP=>?_)
 . obtain⟨_,_,_,_,_,_,_,h,_⟩:=hP;exact h.kn
 . obtain ⟨x4,x5,x6,x7,x8,f,rfl,hS8,hf8⟩:=hP;rw[hl,A08] at hx
   cases he:qs[i]? with
   |none=>rw[he] at hx;cases hx
   |some e=>
     rw[he] at hx
     cases hx
     have hM:(Br ns qs)[i]? = some (ns.filter e):=by unfold Br;rw[A08,he];rfl
     have hsp:Br ns qs=(Br ns qs).take i++ns.filter e :: (Br ns qs).drop (i+1):=by
      obtain⟨hi',hM'⟩:=A00.mp hM
      conv=>lhs;rw[<- List.take_append_drop i (Br ns qs),List.drop_eq_getElem_cons hi',hM']
     have hat:=aK4 hG hsp;have hLn:(ns.filter e).Nodup:=A1Y A1T hn;have hFn:(frF (Be ps) (ns.filter e)).Nodup:=A1Y A1T hLn
     symm
     refine au7 hS8.wb.ob (by rfl) ?_
     symm
     refine⟨p,dx,nv,bd,ad,kd,ns,ps,e,rfl,hS8.wb,hW,h10,λl9 H9 hl9 e9 h9=>?_⟩;refine Zl (SqL.of h9) ?_
     have hl9as:l9∉as:=λz=>by
      obtain⟨j,hj⟩:=A1O.mp z;have hjl:=(A00.mp hj).1;have:=hS8.tb.row j (ns[j]'(by rw[<- hal5];exact hjl)) l9 (A05 _) hj;rw[hl9] at this
      cases this
     refine Iw (Je (xs:=(frF (Be ps) (ns.filter e)).map V.str)) (λm σ H10=>∃ y5 y6 y7 y8 f2,σ=[some v,some (.ref p),some (.ref cd),some (.ref fd),some (.int ((B4 ns e:Nat):Int)),y5,y6,y7,y8]/\H10 l9=some (.lst ((frF (Be ps) (ns.filter e)).map V.str))/\Shr K C_Ways H H10 o p dx nv bd ad kd cd fd ns ps qs ct as f2/\∀ x∈ns,∀ y∈ns,f2 x y=f x y+if x∈(frF (Be ps) (ns.filter e)).take m/\y∈Ai (ns.filter e) x then Hk ns (ind (ns.filter e)) ct*cnt (Be ps) (Ai (ns.filter e) x) else 0)
      ⟨_,_,_,_,_,rfl,h9,hS8.same e9,λx _ y _=>by simp⟩ (λm σ' H' hP=>?_) (λm x10 σ' H10 hx10 hm hP=>?_) (fun σ' H10 hP=>?_)
     . obtain⟨_,_,_,_,_,_,h,_⟩:=hP;exact SqL.of h
     . obtain ⟨y5,y6,y7,y8,f2,rfl,h10l,hS10,hf10⟩:=hP;rw[A08] at hx10
       cases hz:(frF (Be ps) (ns.filter e))[m]? with
       |none=>rw[hz] at hx10;cases hx10
       |some z=>
         rw[hz] at hx10
         cases hx10;have hzf:=A04 hz;have hzL:=(mem_frF.mp hzf).1;have hzn:=(A15.mp hzL).1;have hsub:=Qf hn hzn (A15.mp hzL).2;have hval:((B4 ns e:Nat):Int)-((Fk ns z:Nat):Int)=((B4 ns (λy=>e y && !decide (y=z)):Nat):Int):=by omega
         have hMk:ns.filter e∈Hc ns ct:=by
          rcases hat with q|⟨_,q|⟨N,hN,x,hx,q⟩⟩
          . rw[q] at hzf;cases hzf
          . rw[q];exact hC.k2
          rw[q];exact hC.k3 N ((List.drop_sublist _ _).subset hN) x hx
         have hRk:ns.filter (λy=>e y && !decide (y=z))∈Br ns qs:=by
          rw[Du];rcases hat with q|⟨q,_⟩
          . rw[q] at hzf;cases hzf
          exact(A46 _ _).subset (q z hzf)
         have hcle:=hC.le hn h10 (ns.filter e)
         symm
         refine M6 hS10.wb.ob (by rfl) ?_
         symm
         refine i_ixD hS10.wb.bt (G8 hzn) ?_
         symm
         rw[hval];refine W1 hS10.cm (Ts hO hMk) ?_
         symm
         refine M6 hS10.wb.ob (by rfl) ?_
         symm
         refine aq9 (.inr ⟨o,hS10.kn⟩) (Vd hRk) ?_
         symm
         rw[<- Int.natCast_mul,Du];refine Kk (hI.hf_fz hS10.sm.fz) λnv11 hN11=>?_;generalize hmany:Hk ns (ind (ns.filter e)) ct*cnt (Be ps) (Ai (ns.filter e) z)=many
         refine Pk hN11 (λk' σ H11=>∃ z8 f3,σ=[some v,some (.ref p),some (.ref cd),some (.ref fd),some (.int ((B4 ns e:Nat):Int)),some (.str z),some (.int ((B4 ns (λy=>e y && !decide (y=z)):Nat):Int)),some (.int ((many:Nat):Int)),z8]/\Fz H10 H11/\H11 l9=some (.lst ((frF (Be ps) (ns.filter e)).map V.str))/\Shr K C_Ways H H11 o p dx nv bd ad kd cd fd ns ps qs ct as f3/\∀ x∈ns,∀ y∈ns,f3 x y=f2 x y+if x=z/\y∈ns.take k'/\y∈Ai (ns.filter e) z then many else 0)
          ⟨_,f2,rfl,.refl _,h10l,hS10,λx _ y _=>by simp⟩ (λk' σ' H' hP=>?_) (λk' w σ' H11 hw hP=>?_) (fun σ' H11 hP=>?_)
         . obtain⟨_,_,_,h,_⟩:=hP;exact h
         . obtain⟨z8,f3,rfl,fz11,h11l,hS11,hf11⟩:=hP;have hwn:=A04 hw
           symm
           refine M6 hS11.wb.ob (by rfl) ?_
           symm
           refine i_ixD hS11.wb.bt (G8 hwn) ?_
           symm
           rw[Zd hn hwn]
           have hwt:w∉ns.take k':=λhm=>by
            obtain⟨j,hj⟩:=A1O.mp hm;rw[A44] at hj
            split at hj
            . rename_i hji;have a1:=A00.mp hj;have a2:=A00.mp hw;have:=(A1G hn).mp (a1.2.trans a2.2.symm);omega
            cases hj
           have hwm:w∈Ai (ns.filter e) z↔(e w && !decide (w=z))=true:=by rw[<- Du,A15];exact⟨λq=>q.2,λq=>⟨hwn,q⟩⟩
           have htk:ns.take (k'+1)=ns.take k'++[w]:=by rw[A0S,hw];rfl
           refine ay0 (λhb=>?_) (λhb=>?_)
           . obtain⟨j,a,hj,haj⟩:=hS11.tb.at hzn;have hrow:=hS11.tb.row j z a hj haj
             symm
             refine i_ixD hS11.tb.top (Fy hn hj haj) ?_
             symm
             refine i_ixD hrow (G8 hwn) ?_
             symm
             refine i_ixD hS11.tb.top (Fy hn hj haj) ?_
             symm
             refine Jo hrow (by unfold Tq;rw[List.length_map];omega) λH12 e12 h12=>?_;rw[<- Int.natCast_add] at h12;have hS12:=hS11.put hn hj haj hwn e12 h12
             symm
             refine⟨_,_,rfl,fz11.trans (e12.fzD hrow),e12 _ _ (λz=>hl9as (z ▸ A04 haj)) h11l,hS12,λx hx y hy=>?_⟩;show(if x=z/\y=w then f3 z w+many else f3 x y)=_
             rw[htk]
             by_cases c:x=z/\y=w
             . obtain⟨rfl,rfl⟩:=c;rw[if_pos ⟨rfl,rfl⟩,hf11 x hx y hy,if_neg (λq=>hwt q.2.1),if_pos ⟨rfl,by simp,hwm.mpr hb⟩];rfl
             rw[A0J c,hf11 x hx y hy];congr 1
             by_cases c2:x=z/\y∈ns.take k'/\y∈Ai (ns.filter e) z
             . rw[A0R c2,A0R ⟨c2.1,A0X _ c2.2.1,c2.2.2⟩]
             rw[A0J c2,A0J];rintro⟨c3,c4,c5⟩;rcases A0G.mp c4 with c4|c4
             . exact c2 ⟨c3,c4,c5⟩
             exact c ⟨c3,by simpa using c4⟩
           symm
           refine⟨_,f3,rfl,fz11,h11l,hS11,λx hx y hy=>?_⟩;rw[hf11 x hx y hy,htk];congr 1
           by_cases c:x=z/\y∈ns.take k'/\y∈Ai (ns.filter e) z
           . rw[A0R c,A0R ⟨c.1,A0X _ c.2.1,c.2.2⟩]
           rw[A0J c,A0J];rintro⟨c1,c2,c3⟩;rcases A0G.mp c2 with c2|c2
           . exact c ⟨c1,c2,c3⟩
           have:y=w:=by simpa using c2
           subst this;rw[hwm.mp c3] at hb
           cases hb
         obtain⟨z8,f3,rfl,fz11,h11l,hS11,hf11⟩:=hP;refine⟨_,_,_,_,f3,rfl,h11l,hS11,λx hx y hy=>?_⟩;rw[hf11 x hx y hy,hf10 x hx y hy,A11,A0S,hz,Nat.add_assoc];congr 1
         have hzt:z∉(frF (Be ps) (ns.filter e)).take m:=λhm=>by
          obtain⟨j,hj⟩:=A1O.mp hm;rw[A44] at hj
          split at hj
          . rename_i hji;have a1:=A00.mp hj;have a2:=A00.mp hz;have:=(A1G hFn).mp (a1.2.trans a2.2.symm);omega
          cases hj
         by_cases c:x=z
         . subst c
           by_cases c2:y∈Ai (ns.filter e) x
           . rw[if_neg (λq=>hzt q.1),if_pos ⟨rfl,hy,c2⟩,if_pos ⟨by simp,c2⟩,hmany,Nat.zero_add]
           rw[A0J (λq=>c2 q.2),A0J (λq=>c2 q.2.2),A0J (λq=>c2 q.2)]
         rw[A0J (λq:x=z/\_=>c q.1),Nat.add_zero]
         by_cases c2:x∈(frF (Be ps) (ns.filter e)).take m/\y∈Ai (ns.filter e) x
         . rw[A0R c2,A0R ⟨A0X _ c2.1,c2.2⟩]
         rw[A0J c2,A0J];rintro⟨q1,q2⟩;rcases A0G.mp q1 with q1|q1
         . exact c2 ⟨q1,q2⟩
         exact c (by simpa using q1)
     obtain⟨y5,y6,y7,y8,f2,rfl,h10l,hS10,hf10⟩:=hP;refine⟨_,_,_,_,_,f2,rfl,hS10,λx hx y hy=>?_⟩;rw[hf10 x hx y hy,hf8 x hx y hy,A02,A11,A0S,hM,A16,List.sum_append];congr 1;show _=Hk ns (ind (ns.filter e)) ct*ah9 (Be ps) x y (ns.filter e)+0;unfold ah9
     split
     . rfl
     rfl
 obtain⟨x4,x5,x6,x7,x8,f,rfl,hS8,hf8⟩:=hP
 symm
 refine k fd as f H8 hS8.sm hS8.tb λx hx y hy hxy=>?_;rw[hf8 x hx y hy,hl,List.length_map,show qs.length=(Br ns qs).length by unfold Br;rw[List.length_map],List.take_length];exact hC.share hnd hW hx hy hxy
def Jb (K:W.Frag):Sp:=λvs H Q _=>∃ v ns ps,vs=[v]/\Is K H (hfD ns ps) v/\HalfW ns ps/\ns.length<=10/\∀ l ys H',H l=none->Same H H'->H' l=some (.lst ys)->IsL K H' (quP ns ps) ys->Q (.ref l) H'
theorem au2 {ns:List Str}{ps:List (Str×Str)}(h:ns.length<=10):(unP ns ps).length<=100:=by unfold unP unK;rw[A56];refine A0L (Jj (c:=10) λi _=>?_) (by rw[A1R];omega);unfold unR;rw[A02];exact A0L (A1L _ _) (by rw[A1M];omega)
theorem Tb {f:Addr}{fd:FuncData}(F:Fun K "questions" "questions" Ew f fd)(T:Gg mg)(Qs:Fnd P w K mg base 3 "untold" ["half"] (Oc K))(K5:Fnd P w K mg base 14 "shares_of" ["half"] (J6 K)):FnOk P w K mg base CX0 15 f fd ["half"] (Jb K):=by
 refine F.ok M4 (λvs H Q E h=>?_) (λcdv A outer s H vs Q E hr h=>?_)
 . obtain⟨v,ns,ps,rfl,_⟩:=h;rfl
 obtain⟨v,ns,ps,rfl,hI,hW,h10,k⟩:=h;have hu:=Cg hr;have hq:=Cf hr;have hn:=hW.nd
 with_reducible refine⟨_,(A3 (Ad (i:=1) M4.nd ⋯ (by with_unfolding_all exact A3W rfl) (Ch K5 (hr.mono ∅) ⋯ (A1 (pv 0) A2)))
  (A5 (At (Dm ["pair"] ["shares"] [1] ⋯ ⋯ ⋯ (B3 (K:=K) hu (Ch Qs (hr.mono ∅) ⋯ (A1 (pv 0) A2))) (λ_ _ _ _=>(Al (i:=0) (by with_unfolding_all (show(["pair","shares"]:List Str).Nodup;decide +kernel)) ⋯ (by eq_refl))) (Cd ∅) (λ_ _ _ _=>Dx) (λ_ _ _ _=>(B0 (A1 (pv 0) (A1 (B0 (A1 (Ak (A7 (K:=K) hu) (Ak (A7 (K:=K) hu) (pv 1) (Ak (A7 (K:=K) hu) (pv 0) A6 (by ac_rfl)) (by ac_rfl)) (Ak (A7 (K:=K) hu) (pv 0) A6 (by ac_rfl)) (by ac_rfl)) (A1 (Ak (A7 (K:=K) hu) (Ak (A7 (K:=K) hu) (pv 1) (Ak (A7 (K:=K) hu) (pv 0) A6 (by ac_rfl)) (by ac_rfl)) (Ak (A7 (K:=K) hu) (pv 0) A6 (by ac_rfl)) (by ac_rfl)) A2))) A2)))))))),?_⟩
 symm
 refine⟨v,ns,ps,rfl,hI,hW,h10,λfd as f H1 e1 hT hf=>?_⟩
 symm
 refine⟨v,ns,ps,rfl,hI.hf_fz e1.fz,hW,λu H2 e2 hu2=>?_⟩
 symm
 have hun:=au2 (ps:=ps) h10;refine as2 hu2 (λ_=>true) (λp=>qsD p (cnt (Be (ps++[(p.1,p.2)])) ns) (cnt (Be (ps++[(p.2,p.1)])) ns)) (λ_=>aj5 ..) nofun (λi p w H3 R R' hp hIw e3 hR hR'=>?_) (λl ys H3 hl e3 h3 hL=>?_)
 . have hpm:=A04 hp;obtain⟨m1,m2,_⟩:=Uj hpm;have hne:=aj9 hn hpm;have hT3:=hT.same (e2.trans e3);obtain⟨j1,a1,hj1,ha1⟩:=hT3.at m1;obtain⟨j2,a2,hj2,ha2⟩:=hT3.at m2
   symm
   refine Vg hIw ?_
   symm
   refine i_ixD hT3.top (Fy hn hj1 ha1) ?_
   symm
   refine Pf hIw ?_
   symm
   refine i_ixD (hT3.row j1 p.1 a1 hj1 ha1) (G8 m2) ?_
   symm
   refine Pf hIw ?_
   symm
   refine i_ixD hT3.top (Fy hn hj2 ha2) ?_
   symm
   refine Vg hIw ?_
   symm
   refine i_ixD (hT3.row j2 p.2 a2 hj2 ha2) (G8 m1) ?_;rw[hf p.1 m1 p.2 m2 hne,hf p.2 m2 p.1 m1 hne.symm]
   symm
   refine B7 (A8 (by simp)) λt4 H4 ht4 e4 h4=>?_
   symm
   refine B7 (A8 (by simp)) λt5 H5 ht5 e5 h5=>?_;exact hR rfl _ _ (e4.trans e5) (Is.of_tup (SqT.of h5) (.cons (Is.mono (e4.trans e5) _ _ hIw) (.one (Is.of_tup (SqT.of (e5 _ _ h4)) (.cons Gv (.one Gv))))))
 rw[Dq] at hL
 symm
 exact k l ys H3 (e1.free (e2.free hl)) ((e1.trans e2).trans e3) h3 hL
def lamQ:Str:=("best":Str) ++ ".<locals>." ++ "<lambda>"
abbrev LmT (P:Addr)(H:Hp):Prop:=LamT P 174 26 lamQ H
def qA (ns:List Str)(ps:List (Str×Str))(p:Str×Str):Nat:=cnt (Be (ps++[(p.1,p.2)])) ns
def qB (ns:List Str)(ps:List (Str×Str))(p:Str×Str):Nat:=cnt (Be (ps++[(p.2,p.1)])) ns
def qMn (ns:List Str)(ps:List (Str×Str))(p:Str×Str):Int:=if((qB ns ps p:Nat):Int)<((qA ns ps p:Nat):Int) then((qB ns ps p:Nat):Int) else((qA ns ps p:Nat):Int)
theorem aw7 (ns:List Str)(ps:List (Str×Str)):T3 (quP ns ps)=true:=Jf _ (λ_=>aj5 ..) _
theorem al9 (ns:List Str)(ps:List (Str×Str)):quP ns ps=(unP ns ps).map λp=>qsD p (qA ns ps p) (qB ns ps p):=rfl
def aA1 (K:W.Frag)(H:Hp)(ns:List Str)(ps:List (Str×Str))(u:V):Prop:=(u = .non/\unP ns ps=[])\/∃ p∈unP ns ps,Is K H (qsD p (qA ns ps p) (qB ns ps p)) u/\∀ p'∈unP ns ps,qMn ns ps p'<=qMn ns ps p
def Uy (P:Addr)(K:W.Frag):Sp:=λvs H Q _=>∃ v ns ps,vs=[v]/\Is K H (hfD ns ps) v/\HalfW ns ps/\ns.length<=10/\LmT P H/\∀ u H',ExtBut P H H'->LmT P H'->aA1 K H' ns ps u->Q u H'
theorem aN7 {K:W.Frag}{H:Hp}{p:Str×Str}{m n:Nat}{v:V}(h:Is K H (qsD p m n) v):∃ a b x,v = .ref a/\SqT K H a [x,.ref b]/\SqT K H b [.int ((m:Nat):Int),.int ((n:Nat):Int)]:=by
 obtain⟨a,xs,rfl,h1,h2⟩:=Is.tup h;obtain⟨v1,r1,rfl,i1,h2⟩:=Ky h2;obtain⟨v2,r2,rfl,i2,h2⟩:=Ky h2;have e:r2=[]:=by simpa only[L2.IsL] using h2
 subst e;obtain⟨b,ys,rfl,g1,g2⟩:=Is.tup i2;have:=IsL.int_eq (ns:=[((m:Nat):Int),((n:Nat):Int)]) g2;subst this;exact⟨a,b,v1,rfl,h1,g1⟩
theorem Zp {P:Addr}{H H':Hp}{ps:Array Value}(e:ExtBut P H H')(h:H P=some (.tbl ps)):Fz H H':=W5 e λxs q=>by
 rcases q with q|⟨o,q⟩
 . rw[h] at q;cases q
 rw[h] at q;cases q
theorem Kd {P:Addr}{a b:Nat}{q:Str}{H:Hp}(h:LamT P a b q H):∃ ps,H P=some (.tbl ps):=by
 rcases h with h|⟨c,h,_⟩
 . exact⟨_,h⟩
 exact⟨_,h⟩
theorem aK2 {K:W.Frag}{P:Addr}{line col:Nat}{qual:Str}{t:TA}{σ:L2.St}{H:Hp}{Q:VK}(k:t σ H λvs H1=>LamT P line col qual H1/\∀ H2,ExtBut P H1 H2->LamT P line col qual H2->ao4 K vs H2 Q):ay4 K P line col qual t σ H Q:=k
theorem ap3 {f:Addr}{fd:FuncData}(F:Fun K "best" "best" Pn f fd)(T:Gg mg){P_best:Addr}{Us:Addr}(lb:aQ5 K mg base Us P_best)(hcd:fd.code = .ref Us)(Kh:Fnd P w K mg base 15 "questions" ["half"] (Jb K)):FnOk P w K mg base CX0 16 f fd ["half"] (Uy P_best K):=by
 refine Fun.okC F hcd Xu (λvs H Q E h=>?_) (λA outer s H vs Q E hr h=>?_)
 . obtain⟨v,ns,ps,rfl,_⟩:=h;rfl
 obtain⟨v,ns,ps,rfl,hI,hW,h10,hT,k⟩:=h;have hu:=Cg hr;have hq:=Cf hr
 with_reducible refine⟨_,(A3 (Ad (i:=1) Xu.nd ⋯ (by eq_refl) (Ch Kh (hr.mono ∅) ⋯ (A1 (pv 0) A2)))
  (A3 (Cq (An (C5 (K:=K) hq) (Ae (By (K:=K)) ⋯ T.b_len PyProof.Rows.Boot.«len» (A1 (pv 1) A2)) A6 (Ay _)) (A5 (At G4)) Ax)
  (A5 (At (a78 (K:=K) ⟨⋯,lb.hd,lb.bi,lb.gP⟩ ⋯ hr.depth ⋯ T.b_max T.b_min (A1 (pv 1) A2)))))),?_⟩
 symm
 refine⟨v,ns,ps,rfl,hI,hW,h10,λl ys H1 hl e1 h1 hL1=>?_⟩;have hyl:=IsL.length hL1;rw[al9,A02] at hyl
 symm
 refine Ig (λhc=>?_) (λhc=>?_)
 . symm
   have h0:unP ns ps=[]:=A1C.mp (by have:=V.int.inj hc;omega);exact k .non H1 e1.but (hT.same e1) (.inl ⟨rfl,h0⟩)
 have hpos:0<ys.length:=by
  rcases A5H ys.length with z|z
  . exact absurd (by rw[z];rfl) hc
  exact z
 symm
 refine aK2 ?_
 symm
 refine⟨hT.same e1,λH2 e2 hT2=>?_⟩;obtain⟨tps,htb⟩:=Kd (hT.same e1);have fz2:=Zp e2 htb;have hlP:l≠_:=ne_of h1 htb (by intro z;cases z);have hL2:=IsL.fz fz2 _ _ (aw7 ns ps) hL1
 have itm:∀(i:Nat) u,ys[i]? = some u->∃ p,(unP ns ps)[i]? = some p/\Is K H2 (qsD p (qA ns ps p) (qB ns ps p)) u:=λi u hu'=>by
  obtain ⟨dd,hd,hIu⟩:=IsL.get hL2 hu';rw[al9,A08] at hd
  cases hp:(unP ns ps)[i]? with
  |none=>rw[hp] at hd;cases hd
  |some p=>
    rw[hp] at hd
    cases hd;exact⟨p,rfl,hIu⟩
 refine⟨l,ys,λi=>qMn ns ps ((unP ns ps).getD i ("","")),rfl,SqL.of (e2 _ _ hlP h1),hpos,λi u hu'=>?_,λi u hu' hmax=>?_⟩
 . obtain⟨p,hp,hIu⟩:=itm i u hu';obtain⟨a,b,x,rfl,g1,g2⟩:=aN7 hIu;refine⟨a,b,x,_,_,rfl,g1,g2,?_⟩;show qMn ns ps ((unP ns ps).getD i ("",""))=_;rw[A1Q,hp];rfl
 obtain⟨p,hp,hIu⟩:=itm i u hu';refine k u H2 (λb o hb q=>e2 _ _ hb (e1 _ _ q)) hT2 (.inr ⟨p,A04 hp,hIu,λp' hp'=>?_⟩);obtain⟨j,hj⟩:=A1O.mp hp';have hj1:=(A00.mp hj).1;have hm:=(hmax j nofun).1;have g1:(unP ns ps).getD i ("","")=p:=by rw[A1Q,hp];rfl
 have g2:(unP ns ps).getD j ("","")=p':=by rw[A1Q,hj];rfl
 have hm':qMn ns ps ((unP ns ps).getD i ("",""))>=qMn ns ps ((unP ns ps).getD j ("","")):=hm;rw [g1,g2] at hm';exact hm'
theorem a64 {k:Nat}:∀ {ds:List PyData},(∀ e∈ds,e.weight<=k)->PyData.weightAll ds<=ds.length*(k+1)
 | [],_=>by simp only[PyData.weightAll];omega
 |d :: ds,h=>by have h1:=h d (by simp);have h2:=a64 (ds:=ds) λe he=>h e (by simp[he]);simp only[PyData.weightAll,List.length_cons,Nat.succ_mul];omega
theorem aH7 {z:Str}(h:Nt z=true):Asc z:=λc hc=>by unfold Nt at h;rw[A19,A1B] at h;have:=h.2 c hc;unfold Kq at this;rw[A19,A4A,A4A] at this;omega
theorem Mx {p W:Nat}{ns:List Str}(h:∀ z∈ns,Nt z=true)(hl:ns.length<=W):Els p (ns.length*9) W (ns.map PyData.str):=by
 refine⟨λe he=>?_,?_,by simpa using hl⟩
 . obtain⟨z,hz,rfl⟩:=A0E.mp he;exact⟨8,W4 (aH7 (h z hz)) (aj7 (h z hz))⟩
 have:=a64 (k:=8) (ds:=ns.map PyData.str) λe he=>by obtain⟨z,hz,rfl⟩:=A0E.mp he;simp only[PyData.weight];exact aj7 (h z hz)
 simpa using this
theorem aq1 {p W:Nat}{q:Str×Str}(h1:Nt q.1=true)(h2:Nt q.2=true)(hW:2<=W):Dk (p+1) 18 W (prD q):=by
 have:=Mx (p:=p) (W:=W) (ns:=[q.1,q.2]) (λz hz=>by
  simp only[List.mem_cons,List.not_mem_nil,or_false] at hz;rcases hz with rfl|rfl
  . exact h1
  exact h2) hW
 exact Kx this
theorem av7 {p W:Nat}{ps:List (Str×Str)}(h:NmP ps)(hl:ps.length<=W)(hW:2<=W):Els (p+1) (ps.length*19) W (ps.map prD):=by
 refine⟨λe he=>?_,?_,by simpa using hl⟩
 . obtain⟨q,hq,rfl⟩:=A0E.mp he;exact⟨18,aq1 (h q hq).1 (h q hq).2 hW⟩
 have:=a64 (k:=18) (ds:=ps.map prD) λe he=>by obtain⟨q,hq,rfl⟩:=A0E.mp he;exact(aq1 (p:=0) (h q hq).1 (h q hq).2 hW).wt
 simpa using this
theorem ar9 {ns:List Str}{ps:List (Str×Str)}(h:NmP ps)(h1:∀ z∈ns,Nt z=true)(h2:ns.length<=20)(h3:ps.length<=70):Dk 3 1600 70 (hfD ns ps):=by
 have a:=Kx (Mx (p:=1) (W:=70) h1 nofun);have b:=Kx (av7 (p:=0) (W:=70) h nofun nofun);refine Kx (p:=2) ⟨λe he=>?_,?_,by simp⟩
 . simp only[List.mem_cons,List.not_mem_nil,or_false] at he;rcases he with rfl|rfl
   . exact⟨_,a⟩
   exact⟨_,b⟩
 have:=a.wt;have:=b.wt;simp only[PyData.weightAll];simp only[nmD,psD] at *;omega
def spV:Sp:=λ_ _ _ _=>False
def Zs (C:Addr)(K:W.Frag):Sp:=spV
def Jp (C C1 C2 C3:Addr)(K:W.Frag):Sp:=spV
def J3 (C C1:Addr)(K:W.Frag):Sp:=spV
local macro_rules | `(tactic| walk_at "rq1") => L2.mAlts "i_sRaise i_tMeth"
def Refz (H:Hp)(C:Addr)(x:Str)(E:XK):Prop:=∀ a H',Same H H'->ExB false H' a C [("name",.str x)]->E (.ref a) none H'
theorem Refz.mono {H H':Hp}{C:Addr}{x:Str}{E:XK}(h:Refz H C x E)(e:Same H H'):Refz H' C x E:=λa H2 e2 hE=>h a H2 (e.trans e2) hE
def al4 (ns xs:List Str)(z:Str):Prop:=∃ as bs,xs=as++z :: bs/\(∀ y∈as,y∈ns)/\z∉ns
def C6 (C:Addr)(K:W.Frag):Sp:=λvs H Q E=>∃ v u ns ps xs,vs=[v,u]/\Is K H (hfD ns ps) v/\Is K H (nmD xs) u/\((∃ z,al4 ns xs z/\Refz H C z E)\/((∀ z∈xs,z∈ns)/\Q .non H))
theorem Jn {f:Addr}{fd:FuncData}(F:Fun K "refuse_strangers" "refuse_strangers" B9 f fd)(T:Gg mg){C_HalfError:Addr}{C_NoName:Addr}(x_HalfError:Ap K mg C_HalfError C_HalfError)(x_NoName:Bv K mg C_NoName C_HalfError)(Ia:Mkx P w K mg base 1 C_NoName "NoName" ["self","name"] (spX C_NoName ["name"])):FnOk P w K mg base (CX1 P w) 3 f fd ["half","asked"] (C6 C_NoName K):=by
 refine F.ok1 G7 (λvs H Q E h=>?_) (λcdv A outer s H vs Q E hr h=>?_)
 . obtain⟨v,u,ns,ps,xs,rfl,_⟩:=h;rfl
 obtain⟨v,u,ns,ps,xs,rfl,hI,hU,hk⟩:=h;have hu:=Cg hr;have hq:=Cf hr
 with_reducible refine⟨_,(A5 (Eo PassesOwn.leaving ⋯ (B3 (K:=K) hu (pv 1)) (Al (i:=2) G7.nd ⋯ (by eq_refl))
  (A5 (Cq (An (Gc (K:=K) hq) (pv 2) (Ak (A7 (K:=K) hu) (pv 0) A6 (by ac_rfl)) ⋯) (A5 (Kl ⋯ (a56 Ia (hr.mono ∅) ⋯ (A1 (pv 2) A2)))) Ax)))),?_⟩
 symm
 refine Pk hU (λi σ H1=>∃ x2,σ=[some v,some u,x2]/\H1=H/\∀ y∈xs.take i,y∈ns) ⟨_,rfl,rfl,by simp⟩ (λi σ' H' hP=>?_) (λi z σ' H1 hz hP=>?_) (fun σ' H1 hP=>?_)
 . obtain⟨_,_,rfl,_⟩:=hP;exact .refl _
 . obtain⟨x2,rfl,rfl,hi⟩:=hP
   symm
   refine Kk hI λnv hN=>?_;refine ay7 hN ?_
   symm
   refine ap6 (λhc=>?_) (λhc=>?_)
   . rcases hk with ⟨x,⟨as,bs,rfl,ha,hx⟩,k⟩|⟨hall,_⟩
     . have e:z=x:=by
        rcases Nat.lt_trichotomy i as.length with lt|e|gt
        . exact absurd (ha z (A04 (by rwa[A1V lt] at hz))) hc
        . rw[e,A41 (A07 _),Nat.sub_self] at hz;exact(A0O hz).symm
        exact absurd (hi x (List.mem_take_iff_getElem.mpr ⟨as.length,by simp;omega,by simp⟩)) hx
       subst e
       symm
       refine ab7 (by rfl) ∅ λa H2 ha2 e2 hE=>?_
       symm
       exact Ld hE x_NoName.xc ha2 λH3 kp hE3=>k a H3 (λb o q=>kp b o (ne_of_none q ha2) (e2 _ _ q)) hE3
     exact absurd (hall z (A04 hz)) hc
   symm
   refine⟨_,rfl,rfl,λy hy=>?_⟩;rw[A0S,hz] at hy;rcases A0G.mp hy with h|h
   . exact hi y h
   have:y=z:=by simpa using h
   exact this ▸ hc
 obtain⟨x2,rfl,rfl,hi⟩:=hP;rw[A11] at hi;rcases hk with ⟨x,⟨as,bs,rfl,ha,hx⟩,k⟩|⟨hall,k⟩
 . exact absurd (hi x (by simp)) hx
 exact k
def enD (e:Nat×(Str×Str)):PyData:=.tuple [.int ((e.1:Nat):Int),prD e.2]
def aG9 (es:List (Nat×(Str×Str)))(n:Nat):PyData:=.tuple [.tuple (es.map enD),.int ((n:Nat):Int)]
structure KpAt (K:W.Frag)(C:Addr)(H:Hp)(p:Addr)(ns:List Str)(es:List (Nat×(Str×Str)))(n:Nat):Prop where
 ex:∃ dx nv w pv0 uv,H p=some (.ins C dx [("names",nv),("now",.ref w),("past",pv0),("undone",uv)])/\Is K H (nmD ns) nv/\Is K H (aG9 es n) (.ref w)
 nd:Names ns
 few:ns.length<=10
 mem:∀ e∈es,e.2.1∈ns/\e.2.2∈ns
 irr:∀ x,¬ Way (es.map (·.2)) x x
 le:es.length<=60
theorem au5 (es:List (Nat×(Str×Str)))(n:Nat):frz (aG9 es n)=true:=by simp[aG9,frz,T3,Jf enD (λe=>by simp[enD,frz,T3,Ng])]
theorem KpAt.same {K:W.Frag}{C:Addr}{H H':Hp}{p:Addr}{ns:List Str}{es:List (Nat×(Str×Str))}{n:Nat}(h:KpAt K C H p ns es n)(e:Same H H'):KpAt K C H' p ns es n:=by obtain⟨dx,nv,w,pv0,uv,h1,h2,h3⟩:=h.ex;exact⟨⟨dx,nv,w,pv0,uv,e _ _ h1,h2.nm_fz e.fz,Is.mono e _ _ h3⟩,h.nd,h.few,h.mem,h.irr,h.le⟩
def Bk (C:Addr)(K:W.Frag):Sp:=λvs H Q _=>∃ p ns es n,vs=[.ref p]/\KpAt K C H p ns es n/\∀ u H',Same H H'->Is K H' (hfD ns (es.map (·.2))) u->Q u H'
def Ey (C:Addr)(K:W.Frag):Sp:=λvs H Q _=>∃ p ns es n,vs=[.ref p]/\KpAt K C H p ns es n/\∀ u H',Same H H'->Is K H' (jsD (es.map (·.1))) u->Q u H'
theorem Yn {K:W.Frag}{H:Hp}{d:PyData}{ds:List PyData}{vs:List V}(h:IsL K H (d :: ds) vs):∃ v us,vs=v :: us/\Is K H d v/\IsL K H ds us:=by simpa only[L2.IsL] using h
theorem ae3 {K:W.Frag}{H:Hp}{vs:List V}(h:IsL K H [] vs):vs=[]:=by simpa only[L2.IsL] using h
theorem Ub {K:W.Frag}{H:Hp}{z:Int}{v:V}(h:Is K H (.int z) v):v = .int z:=by simpa only[Is] using h
theorem am2 {K:W.Frag}{H:Hp}{d1 d2:PyData}{v:V}(h:Is K H (.tuple [d1,d2]) v):∃ a x y,v = .ref a/\SqT K H a [x,y]/\Is K H d1 x/\Is K H d2 y:=by obtain⟨a,xs,rfl,hS,hL⟩:=h.tup;obtain⟨x,us,rfl,h1,hL⟩:=Yn hL;obtain⟨y,us2,rfl,h2,hL⟩:=Yn hL;have:=ae3 hL;subst this;exact⟨a,x,y,rfl,hS,h1,h2⟩
theorem W6 {K:W.Frag}{H:Hp}{e:Nat×(Str×Str)}{v:V}(h:Is K H (enD e) v):∃ a x,v = .ref a/\SqT K H a [.int ((e.1:Nat):Int),x]/\Is K H (prD e.2) x:=by obtain⟨a,x,y,rfl,hS,h1,h2⟩:=am2 h;have:=Ub h1;subst this;exact⟨a,y,rfl,hS,h2⟩
theorem W2 {K:W.Frag}{H:Hp}{es:List (Nat×(Str×Str))}{n:Nat}{w:Addr}(h:Is K H (aG9 es n) (.ref w)):∃ t xs,SqT K H w [.ref t,.int ((n:Nat):Int)]/\SqT K H t xs/\IsL K H (es.map enD) xs:=by
 obtain⟨a,x,y,e,hS,h1,h2⟩:=am2 h
 cases e;obtain⟨t,xs,rfl,hT,hL⟩:=h1.tup;have:=Ub h2;subst this;exact⟨t,xs,hS,hT,hL⟩
theorem Oq {f:Addr}{fd:FuncData}(F:Fun K "half" "Keeper.half" Cv f fd)(T:Gg mg){C_Keeper:Addr}(k_Keeper:Av K C_Keeper):FnOk P w K mg base CX0 1 f fd ["self"] (Bk C_Keeper K):=by
 refine F.ok Ou (λvs H Q E h=>?_) (λcdv A outer s H vs Q E hr h=>?_)
 . obtain⟨p,ns,es,n,rfl,_⟩:=h;rfl
 obtain⟨p,ns,es,n,rfl,hK,k⟩:=h;have hu:=Cg hr;have hq:=Cf hr;obtain⟨dx,nv,w,pv0,uv,h1,h2,h3⟩:=hK.ex;obtain⟨t,xs,hw,ht,hx⟩:=W2 h3
 with_reducible refine⟨_,(A5 (At (B0 (A1 (Ds (C:=C_Keeper) (pv 0) k_Keeper.cl k_Keeper.n_names ⋯) (A1 (As (Bd (K:=K)) ⋯ T.b_tuple PyProof.Rows.Boot.«tuple» (A1 (Dm ["entry"] [] [] ⋯ ⋯ ⋯ (B3 (K:=K) hu (Ak (A7 (K:=K) hu) (Ds (C:=C_Keeper) (pv 0) k_Keeper.cl k_Keeper.n_now ⋯) A6 (by ac_rfl))) (λ_ _ _ _=>(Al (i:=0) (by with_unfolding_all (show(["entry"]:List Str).Nodup;decide +kernel)) ⋯ (by eq_refl))) (Cd ∅) (λ_ _ _ _=>Dx) (λ_ _ _ _=>(Ak (A7 (K:=K) hu) (pv 0) A6 (by ac_rfl)))) A2)) A2))))),?_⟩
 symm
 refine M6 h1 (by rfl) ?_
 symm
 refine M6 h1 (by rfl) ?_
 symm
 refine L8 hw (show atI _ 0=some (.ref t) from rfl) ?_
 symm
 refine Nf ht (Hx (K:=K) (Er (xs:=xs)) es (by rw[<- IsL.length hx,A02]) (λ_=>true) (λe=>prD e.2) (λ_=>Ng _) (by have:=hK.le;rw[<- IsL.length hx,A02];omega) (λH' e=>e.seqT ht) (λi e v H1 R R' he hv e1 hR hR'=>?_) (λq us H1 hq1 e1 hq hL1=>?_))
 . obtain⟨D,hD,hI⟩:=IsL.get hx hv;rw[A08,he] at hD
   cases hD;obtain⟨a,x,rfl,hS,hP⟩:=W6 (Is.mono e1 _ _ hI)
   symm
   refine L8 hS (show atI _ 1=some x from rfl) ?_;exact hR rfl _ _ (.refl _) hP
 rw[Dq] at hL1
 symm
 refine Yz (ps:=es.map (·.2)) hq (by rw[A1A];exact hL1) λu2 H2 e2 hu2=>?_
 symm
 refine B7 (A8 (by simp)) λt3 H3 ht3 e3 h3'=>?_;exact k _ H3 ((e1.trans e2).trans e3) (aL0 (SqT.of h3') (h2.nm_fz ((e1.trans e2).trans e3).fz) (Is.mono e3 _ _ hu2))
theorem Lv {f:Addr}{fd:FuncData}(F:Fun K "numbers" "Keeper.numbers" Bw f fd)(T:Gg mg){C_Keeper:Addr}(k_Keeper:Av K C_Keeper):FnOk P w K mg base CX0 1 f fd ["self"] (Ey C_Keeper K):=by
 refine F.ok Lp (λvs H Q E h=>?_) (λcdv A outer s H vs Q E hr h=>?_)
 . obtain⟨p,ns,es,n,rfl,_⟩:=h;rfl
 obtain⟨p,ns,es,n,rfl,hK,k⟩:=h;have hu:=Cg hr;have hq:=Cf hr;obtain⟨dx,nv,w,pv0,uv,h1,h2,h3⟩:=hK.ex;obtain⟨t,xs,hw,ht,hx⟩:=W2 h3
 with_reducible refine⟨_,(A5 (At (As (Bd (K:=K)) ⋯ T.b_tuple PyProof.Rows.Boot.«tuple» (A1 (Dm ["entry"] [] [] ⋯ ⋯ ⋯ (B3 (K:=K) hu (Ak (A7 (K:=K) hu) (Ds (C:=C_Keeper) (pv 0) k_Keeper.cl k_Keeper.n_now ⋯) A6 (by ac_rfl))) (λ_ _ _ _=>(Al (i:=0) (by with_unfolding_all (show(["entry"]:List Str).Nodup;decide +kernel)) ⋯ (by eq_refl))) (Cd ∅) (λ_ _ _ _=>Dx) (λ_ _ _ _=>(Ak (A7 (K:=K) hu) (pv 0) A6 (by ac_rfl)))) A2)))),?_⟩
 symm
 refine M6 h1 (by rfl) ?_
 symm
 refine L8 hw (show atI _ 0=some (.ref t) from rfl) ?_
 symm
 refine Nf ht (Hx (K:=K) (Er (xs:=xs)) es (by rw[<- IsL.length hx,A02]) (λ_=>true) (λe=>PyData.int ((e.1:Nat):Int)) (λ_=>rfl) (by have:=hK.le;rw[<- IsL.length hx,A02];omega) (λH' e=>e.seqT ht) (λi e v H1 R R' he hv e1 hR hR'=>?_) (λq us H1 hq1 e1 hq hL1=>?_))
 . obtain⟨D,hD,hI⟩:=IsL.get hx hv;rw[A08,he] at hD
   cases hD;obtain⟨a,x,rfl,hS,hP⟩:=W6 (Is.mono e1 _ _ hI)
   symm
   refine L8 hS (show atI _ 0=some (.int ((e.1:Nat):Int)) from rfl) ?_;exact hR rfl _ _ (.refl _) Gv
 rw[Dq] at hL1
 symm
 refine Gi (SqL.of hq) λt2 H2 ht2 e2 h2'=>?_;exact k _ H2 (e1.trans e2) (Is.of_tup (SqT.of h2') (by rw[A1A];exact IsL.mono e2 _ _ hL1))
def Refi (H:Hp)(C:Addr)(i:Int)(E:XK):Prop:=∀ a H',Same H H'->ExB false H' a C [("number",.int i)]->E (.ref a) none H'
def Ex (C C_NoSaying:Addr)(K:W.Frag):Sp:=λvs H Q E=>∃ p ns es n i,vs=[.ref p,.int i]/\KpAt K C H p ns es n/\(es.map (·.1)).Nodup/\(∀ e∈es,((e.1:Nat):Int)=i->∀ u,Is K H (prD e.2) u->Q u H)/\((∀ e∈es,((e.1:Nat):Int)≠i)->Refi H C_NoSaying i E)
theorem Ly {f:Addr}{fd:FuncData}(F:Fun K "saying" "Keeper.saying" C7 f fd)(T:Gg mg){C_Keeper:Addr}(k_Keeper:Av K C_Keeper){C_HalfError:Addr}{C_NoName:Addr}{C_NoSaying:Addr}(x_HalfError:Ap K mg C_HalfError C_HalfError)(x_NoName:Bv K mg C_NoName C_HalfError)(x_NoSaying:Ef K mg C_NoSaying C_HalfError)(Ga:Mkx P w K mg base 1 C_NoSaying "NoSaying" ["self","number"] (spX C_NoSaying ["number"])):FnOk P w K mg base (CX1 P w) 3 f fd ["self","number"] (Ex C_Keeper C_NoSaying K):=by
 refine F.ok1 Il (λvs H Q E h=>?_) (λcdv A outer s H vs Q E hr h=>?_)
 . obtain⟨p,ns,es,n,i,rfl,_⟩:=h;rfl
 obtain⟨p,ns,es,n,i,rfl,hK,hnd,k1,k2⟩:=h;have hu:=Cg hr;have hq:=Cf hr;obtain⟨dx,nv,w,pv0,uv,h1,h2,h3⟩:=hK.ex;obtain⟨t,xs,hw,ht,hx⟩:=W2 h3;have hxl:xs.length=es.length:=by rw[<- IsL.length hx,A02]
 with_reducible refine⟨_,(A3 (Eo PassesOwn.leaving ⋯ (B3 (K:=K) hu (Ak (A7 (K:=K) hu) (Ds (C:=C_Keeper) (pv 0) k_Keeper.cl k_Keeper.n_now ⋯) A6 (by ac_rfl))) (Al (i:=2) Il.nd ⋯ (by eq_refl))
  (A5 (Cq (An (C5 (K:=K) hq) (Ak (A7 (K:=K) hu) (pv 2) A6 (by ac_rfl)) (pv 1) (Ay _)) (A5 (At (Ak (A7 (K:=K) hu) (pv 2) A6 (by ac_rfl)))) Ax)))
  (A5 (Kl ⋯ (a56 Ga (hr.mono ∅) ⋯ (A1 (pv 1) A2))))),?_⟩
 symm
 refine M6 h1 (by rfl) ?_
 symm
 refine L8 hw (show atI _ 0=some (.ref t) from rfl) ?_
 symm
 refine Nf ht ?_;refine Iw (Er (xs:=xs)) (λj σ H1=>∃ x2,σ=[some (.ref p),some (.int i),x2]/\H1=H/\∀ e∈es.take j,((e.1:Nat):Int)≠i) ⟨_,rfl,rfl,λe he=>by cases he⟩ (λj σ' H' hP=>?_) (λj x σ' H1 hxj hj hP=>?_) (fun σ' H1 hP=>?_)
 . obtain⟨_,_,rfl,_⟩:=hP;exact ht
 . obtain⟨x2,rfl,rfl,hno⟩:=hP;obtain⟨D,hD,hI⟩:=IsL.get hx hxj;rw[A08] at hD;obtain⟨e,he,rfl⟩:=A4J.mp hD;obtain⟨a,y,rfl,hS,hP⟩:=W6 hI
   symm
   refine L8 hS (show atI _ 0=some (.int ((e.1:Nat):Int)) from rfl) ?_
   symm
   refine Ig (λhc=>?_) (λhc=>?_)
   . symm
     refine L8 hS (show atI _ 1=some y from rfl) ?_;injection hc with hc;exact k1 e (A04 he) hc y hP
   symm
   refine⟨_,rfl,rfl,λe' he'=>?_⟩;rw[A0S,he] at he';rcases A0G.mp he' with q|q
   . exact hno e' q
   have:e'=e:=by simpa using q
   rw[this];exact λq=>hc (by rw[q])
 obtain⟨x2,rfl,rfl,hno⟩:=hP;rw[hxl,A11] at hno;have kk:=k2 hno
 symm
 refine ab7 (by rfl) ∅ λa H4 ha4 e4 hE=>?_
 symm
 exact Ld hE x_NoSaying.xc ha4 λH5 kp hE5=>kk a H5 (λb o q=>kp b o (ne_of_none q ha4) (e4 _ _ q)) hE5
def Es (C:Addr)(K:W.Frag):Sp:=λvs H Q _=>∃ p ns es n x y,vs=[.ref p,.str x,.str y]/\KpAt K C H p ns es n/\∀ u H',Same H H'->((u = .non/\¬ x=y/\¬ Way (es.map (·.2)) x y)\/∃ js os,Is K H' (jsD (js.map λj=>(es.getD j (0,("",""))).1)) u/\js.length<=1000/\Trl (es.map (·.2)) x js y os)->Q u H'
theorem Kw {f:Addr}{fd:FuncData}(F:Fun K "way_kept" "Keeper.way_kept" Bn f fd)(T:Gg mg){C_Keeper:Addr}(k_Keeper:Av K C_Keeper)(Fn:Fnd P w K mg base 1 "way_by_sayings" ["sayings","start","goal"] (Fe K))(Af:Mtd P w K mg base 1 C_Keeper "half" ["self"] (Bk C_Keeper K)):FnOk P w K mg base CX0 2 f fd ["self","name","other"] (Es C_Keeper K):=by
 refine F.ok Gm (λvs H Q E h=>?_) (λcdv A outer s H vs Q E hr h=>?_)
 . obtain⟨p,ns,es,n,x,y,rfl,_⟩:=h;rfl
 obtain⟨p,ns,es,n,x,y,rfl,hK,k⟩:=h;have hu:=Cg hr;have hq:=Cf hr;obtain⟨dx,nv,w,pv0,uv,h1,h2,h3⟩:=hK.ex
 with_reducible refine⟨_,(A3 (Ad (i:=3) Gm.nd ⋯ (by eq_refl) (Ch Fn (hr.mono ∅) ⋯ (A1 (Ak (A7 (K:=K) hu) (Jr (C:=C_Keeper) (pv 0) k_Keeper.cl Af (hr.mono ∅)) A6 (by ac_rfl)) (A1 (pv 1) (A1 (pv 2) A2)))))
  (A3 (Cq (An ai4 (pv 3) G4 (Ay _)) (A5 (At G4)) Ax)
  (A5 (At (As (Bd (K:=K)) ⋯ T.b_tuple PyProof.Rows.Boot.«tuple» (A1 (Dm ["place"] ["self"] [0] ⋯ ⋯ ⋯ (B3 (K:=K) hu (pv 3)) (λ_ _ _ _=>(Al (i:=0) (by with_unfolding_all (show(["place","self"]:List Str).Nodup;decide +kernel)) ⋯ (by eq_refl))) (Cd ∅) (λ_ _ _ _=>Dx) (λ_ _ _ _=>(Ak (A7 (K:=K) hu) (Ak (A7 (K:=K) hu) (Ak (A7 (K:=K) hu) (Ds (C:=C_Keeper) (pv 1) k_Keeper.cl k_Keeper.n_now ⋯) A6 (by ac_rfl)) (pv 0) (by ac_rfl)) A6 (by ac_rfl)))) A2)))))),?_⟩
 symm
 refine K2 h1 (by rfl) ?_
 symm
 refine⟨p,ns,es,n,rfl,hK,λu1 H1 e1 hu1=>?_⟩
 symm
 refine am3 hu1 λpv hP=>?_
 symm
 refine⟨pv,x,y,es.map (·.2),rfl,hP,by rw[A02];have:=hK.le;omega,λu2 H2 e2 hres=>?_⟩;have e02:=e1.trans e2
 symm
 rcases hres with ⟨rfl,hne,hnw⟩|⟨js,os,hj1,hj2,hj3⟩
 . symm
   exact k .non H2 e02 (.inl ⟨rfl,hne,hnw⟩)
 obtain⟨ja,jx,rfl,hjS,hjL⟩:=Is.tup hj1;obtain⟨t,xs,hw,ht,hx⟩:=W2 h3;have hxl:xs.length=es.length:=by rw[<- IsL.length hx,A02]
 refine Ig (λq=>by cases q) (λ_=>?_)
 symm
 refine Nf hjS (Hx (K:=K) (Er (xs:=jx)) js (by rw[<- IsL.length hjL,A02]) (λ_=>true) (λj=>PyData.int (((es.getD j (0,("",""))).1:Nat):Int)) (λ_=>rfl) (by rw[<- IsL.length hjL,A02];omega) (λH' e=>e.seqT hjS) (λi j v H3 R R' hj hv e3 hR hR'=>?_) (λq us H3 hq3 e3 hq hL3=>?_))
 . obtain⟨D,hD,hI⟩:=IsL.get hjL hv;rw[A08,hj] at hD
   cases hD;have:=Ub hI;subst this;obtain⟨a1,b1,_,_,hps⟩:=hj3.ed i j hj;rw[A08] at hps;obtain⟨e,he,_⟩:=A4J.mp hps;have e03:=e02.trans e3;obtain⟨ev,hev,hEv⟩:=IsL.at hx (show(es.map enD)[j]? = some (enD e) by rw[A08,he];rfl);obtain⟨ea,ex,rfl,hS,_⟩:=W6 (Is.mono e03 _ _ hEv)
   symm
   refine M6 (e03 _ _ h1) (by rfl) ?_
   symm
   refine L8 (e03.seqT hw) (show atI _ 0=some (.ref t) from rfl) ?_
   symm
   refine L8 (e03.seqT ht) (show atI _ _=some (.ref ea) from Dl hev) ?_
   symm
   refine L8 hS (show atI _ 0=some (.int ((e.1:Nat):Int)) from rfl) ?_;refine hR rfl _ _ (.refl _) ?_;rw[A1Q,he];exact Gv
 rw[Dq] at hL3
 symm
 refine Gi (SqL.of hq) λt4 H4 ht4 e4 h4'=>?_;exact k _ H4 ((e02.trans e3).trans e4) (.inr ⟨js,os,Is.of_tup (SqT.of h4') (by rw[A1A];exact IsL.mono e4 _ _ hL3),hj2,hj3⟩)
def knV (ps:List (Str×Str))(x y:Str):V:=if Be ps x y=true then .bl true else if Be ps y x=true\/x=y then .bl false else .non
theorem KpAt.c {K:W.Frag}{C:Addr}{H:Hp}{p:Addr}{ns:List Str}{es:List (Nat×(Str×Str))}{n:Nat}(h:KpAt K C H p ns es n):HalfW ns (es.map (·.2)):=
 ⟨h.nd.1,λq hq=>by obtain⟨e,he,rfl⟩:=A0E.mp hq;exact h.mem e he,h.irr,A0L h.few ∅,by rw[A02];exact A0L h.le ∅⟩
theorem al0 {ns:List Str}(x y:Str):(∃ z,al4 ns [x,y] z)\/(x∈ns/\y∈ns):=by
 by_cases hx:x∈ns
 . by_cases hy:y∈ns
   . exact .inr ⟨hx,hy⟩
   exact .inl ⟨y,[x],[],rfl,λz hz=>by rw[A29.mp hz];exact hx,hy⟩
 exact .inl ⟨x,[],[y],rfl,λz hz=>(by cases hz),hx⟩
theorem aG2 {ns:List Str}{x y z:Str}(h:al4 ns [x,y] z)(hx:x∈ns)(hy:y∈ns):False:=by
 obtain⟨as,bs,e,_,hz⟩:=h;have:z∈[x,y]:=by rw[e];simp
 simp only[List.mem_cons,List.not_mem_nil,or_false] at this;rcases this with rfl|rfl
 . exact hz hx
 exact hz hy
theorem Le {t:TT}{ta tb:TE}{σ:L2.St}{H:Hp}{Q:VK}(k:t σ H λc H1=>if c=true then ta σ H1 Q else tb σ H1 Q):tIf t ta tb σ H Q:=k
def aP7 (K:W.Frag)(H:Hp)(es:List (Nat×(Str×Str)))(x y:Str)(u:V):Prop:=(u = .non/\(x=y\/¬ Way (es.map (·.2)) x y))\/∃ js os,x≠y/\Is K H (jsD (js.map λj=>(es.getD j (0,("",""))).1)) u/\js.length<=1000/\Trl (es.map (·.2)) x js y os
def G2 (C C_NoName:Addr)(K:W.Frag):Sp:=λvs H Q E=>∃ p ns es n x y,vs=[.ref p,.str x,.str y]/\KpAt K C H p ns es n/\(∀ z,al4 ns [x,y] z->Refz H C_NoName z E)/\(x∈ns->y∈ns->∀ u H',Same H H'->aP7 K H' es x y u->Q u H')
def Fo (C C_NoName:Addr)(K:W.Frag):Sp:=λvs H Q E=>∃ p ns es n x y,vs=[.ref p,.str x,.str y]/\KpAt K C H p ns es n/\(∀ z,al4 ns [x,y] z->Refz H C_NoName z E)/\(x∈ns->y∈ns->∀ H',Same H H'->Q (knV (es.map (·.2)) x y) H')
theorem Mc {f:Addr}{fd:FuncData}(F:Fun K "knows" "Keeper.knows" Co f fd)(T:Gg mg){C_Keeper:Addr}(k_Keeper:Av K C_Keeper){C_HalfError:Addr}{C_NoName:Addr}(x_HalfError:Ap K mg C_HalfError C_HalfError)(x_NoName:Bv K mg C_NoName C_HalfError)(Bi:Fnd P w K mg base 1 "behind_each" ["half"] (Dn K))(Af:Mtd P w K mg base 1 C_Keeper "half" ["self"] (Bk C_Keeper K))(Bb:aL7 P w K mg base 3 "refuse_strangers" ["half","asked"] (C6 C_NoName K)):FnOk P w K mg base (CX1 P w) 4 f fd ["self","name","other"] (Fo C_Keeper C_NoName K):=by
 refine F.ok1 J5 (λvs H Q E h=>?_) (λcdv A outer s H vs Q E hr h=>?_)
 . obtain⟨p,ns,es,n,x,y,rfl,_⟩:=h;rfl
 obtain⟨p,ns,es,n,x,y,rfl,hK,k1,k2⟩:=h;have hu:=Cg hr;have hq:=Cf hr;obtain⟨dx,nv,w,pv0,uv,h1,h2,h3⟩:=hK.ex
 with_reducible refine⟨_,(A3 (Bs (ah8 Bb (hr.mono ∅) ⋯ ag8 (A1 (Jr (C:=C_Keeper) (pv 0) k_Keeper.cl Af (hr.mono ∅)) (A1 (B0 (A1 (pv 1) (A1 (pv 2) A2))) A2))))
  (A3 (Ad (i:=3) J5.nd ⋯ (by eq_refl) (Ch Bi (hr.mono ∅) ⋯ (A1 (Jr (C:=C_Keeper) (pv 0) k_Keeper.cl Af (hr.mono ∅)) A2)))
  (A3 (Cq (An (Pq (K:=K) hq) (pv 2) (Ak (A7 (K:=K) hu) (pv 3) (pv 1) (by ac_rfl)) ⋯) (A5 (At Ku)) Ax)
  (A5 (At (Fh (PW.pt (a51 (An (Pq (K:=K) hq) (pv 1) (Ak (A7 (K:=K) hu) (pv 3) (pv 2) (by ac_rfl)) ⋯) (Sm (An (C5 (K:=K) hq) (pv 1) (pv 2) (Ay _))))) Ku G4)))))),?_⟩
 symm
 refine K2 h1 (by rfl) ?_
 symm
 refine⟨p,ns,es,n,rfl,hK,λu1 H1 e1 hu1=>?_⟩
 symm
 refine B7 (A8 (by simp)) λt2 H2 ht2 e2 h2'=>?_;have e02:=e1.trans e2
 symm
 refine⟨u1,.ref t2,ns,es.map (·.2),[x,y],rfl,hu1.hf_fz e2.fz,Xl (SqT.of h2'),?_⟩;rcases al0 (ns:=ns) x y with ⟨z,hz⟩|⟨hx,hy⟩
 . exact .inl ⟨z,hz,(k1 z hz).mono e02⟩
 refine .inr ⟨λz hz=>?_,?_⟩
 . simp only[List.mem_cons,List.not_mem_nil,or_false] at hz;rcases hz with rfl|rfl
   . exact hx
   exact hy
 symm
 refine K2 (e02 _ _ h1) (by rfl) ?_
 symm
 refine⟨p,ns,es,n,rfl,hK.same e02,λu3 H3 e3 hu3=>?_⟩
 symm
 refine⟨u3,ns,es.map (·.2),rfl,hu3,hK.c.c,λr as H4 hr4 has e4 hT4=>?_⟩;have kk:=k2 hx hy H4 ((e02.trans e3).trans e4);obtain⟨i,a,hi,hai⟩:=hT4.at hx;obtain⟨ks,hk1,hk2,hk3,hk4⟩:=hT4.row i x a hi hai
 symm
 refine Qy hT4 hK.c.nd hi hai ?_;refine Rf hk1 ?_;rw[L1 (hk4 y)];unfold knV at kk
 symm
 refine ay0 (λhb=>?_) (λhb=>?_)
 . rw[A0R hb] at kk
   symm
   exact kk
 rw[A0J (by rw[hb];decide)] at kk;obtain⟨i2,a2,hi2,hai2⟩:=hT4.at hy;obtain⟨ks2,hl1,hl2,hl3,hl4⟩:=hT4.row i2 y a2 hi2 hai2
 symm
 refine Le ?_
 symm
 refine Qy hT4 hK.c.nd hi2 hai2 ?_;refine Rf hl1 ?_;rw[L1 (hl4 x)]
 symm
 refine ay0 (λhb2=>?_) (λhb2=>?_)
 . rw[A0R (.inl hb2)] at kk
   symm
   exact kk
 symm
 refine Ig (λhc=>?_) (λhc=>?_)
 . injection hc with hc;rw[A0R (.inr hc)] at kk
   symm
   exact kk
 rw[A0J (λq=>q.elim (λq=>by rw[hb2] at q;cases q) (λq=>hc (by rw[q])))] at kk
 symm
 exact kk
theorem Mv {f:Addr}{fd:FuncData}(F:Fun K "lead" "Keeper.lead" Cz f fd)(T:Gg mg){C_Keeper:Addr}(k_Keeper:Av K C_Keeper){C_HalfError:Addr}{C_NoName:Addr}(x_HalfError:Ap K mg C_HalfError C_HalfError)(x_NoName:Bv K mg C_NoName C_HalfError)(Af:Mtd P w K mg base 1 C_Keeper "half" ["self"] (Bk C_Keeper K))(Fb:Mtd P w K mg base 2 C_Keeper "way_kept" ["self","name","other"] (Es C_Keeper K))(Bb:aL7 P w K mg base 3 "refuse_strangers" ["half","asked"] (C6 C_NoName K)):FnOk P w K mg base (CX1 P w) 4 f fd ["self","name","other"] (G2 C_Keeper C_NoName K):=by
 refine F.ok1 Pd (λvs H Q E h=>?_) (λcdv A outer s H vs Q E hr h=>?_)
 . obtain⟨p,ns,es,n,x,y,rfl,_⟩:=h;rfl
 obtain⟨p,ns,es,n,x,y,rfl,hK,k1,k2⟩:=h;have hu:=Cg hr;have hq:=Cf hr;obtain⟨dx,nv,w,pv0,uv,h1,h2,h3⟩:=hK.ex
 with_reducible refine⟨_,(A3 (Bs (ah8 Bb (hr.mono ∅) ⋯ ag8 (A1 (Jr (C:=C_Keeper) (pv 0) k_Keeper.cl Af (hr.mono ∅)) (A1 (B0 (A1 (pv 1) (A1 (pv 2) A2))) A2))))
  (A5 (At (Fh (An (C5 (K:=K) hq) (pv 1) (pv 2) (Ay _)) G4 (Uf (C:=C_Keeper) (pv 0) k_Keeper.cl Fb (hr.mono ∅) (A1 (pv 1) (A1 (pv 2) A2))))))),?_⟩
 symm
 refine K2 h1 (by rfl) ?_
 symm
 refine⟨p,ns,es,n,rfl,hK,λu1 H1 e1 hu1=>?_⟩
 symm
 refine B7 (A8 (by simp)) λt2 H2 ht2 e2 h2'=>?_;have e02:=e1.trans e2
 symm
 refine⟨u1,.ref t2,ns,es.map (·.2),[x,y],rfl,hu1.hf_fz e2.fz,Xl (SqT.of h2'),?_⟩;rcases al0 (ns:=ns) x y with ⟨z,hz⟩|⟨hx,hy⟩
 . exact .inl ⟨z,hz,(k1 z hz).mono e02⟩
 refine .inr ⟨λz hz=>?_,?_⟩
 . simp only[List.mem_cons,List.not_mem_nil,or_false] at hz;rcases hz with rfl|rfl
   . exact hx
   exact hy
 symm
 refine Le ?_
 symm
 refine Ig (λhc=>?_) (λhc=>?_)
 . injection hc with hc
   symm
   exact k2 hx hy _ H2 e02 (.inl ⟨rfl,.inl hc⟩)
 have hne:x≠y:=λq=>hc (by rw[q])
 symm
 refine au7 (e02 _ _ h1) (by rfl) ?_
 symm
 refine⟨p,ns,es,n,x,y,rfl,hK.same e02,λu3 H3 e3 hres=>?_⟩;refine k2 hx hy _ H3 (e02.trans e3) ?_;rcases hres with ⟨rfl,_,h⟩|⟨js,os,j1,j2,j3⟩
 . exact .inl ⟨rfl,.inr h⟩
 exact .inr ⟨js,os,hne,j1,j2,j3⟩
structure KpF (K:W.Frag)(C:Addr)(H:Hp)(p pl ul:Addr)(ns:List Str):Prop where
 ex:∃ dx nv w,H p=some (.ins C dx [("names",nv),("now",.ref w),("past",.ref pl),("undone",.ref ul)])/\Is K H (nmD ns) nv/\Is K H (aG9 [] 0) (.ref w)/\H pl=some (.lst [])/\H ul=some (.lst [])
 nd:Names ns
 few:ns.length<=10
theorem KpF.at {K:W.Frag}{C:Addr}{H:Hp}{p pl ul:Addr}{ns:List Str}(h:KpF K C H p pl ul ns):KpAt K C H p ns [] 0:=by obtain⟨dx,nv,w,h1,h2,h3,_⟩:=h.ex;refine⟨⟨dx,nv,w,_,_,h1,h2,h3⟩,h.nd,h.few,λe he=>(by cases he),λx g=>?_,by simp⟩;have:=g.left;simp at this
theorem KpF.of {K:W.Frag}{C:Addr}{H H':Hp}{p pl ul:Addr}{ns:List Str}(h:KpF K C H p pl ul ns)(f:Fz H H')(q1:∀ o,H p=some o->H' p=some o)(q2:∀ o,H pl=some o->H' pl=some o)(q3:∀ o,H ul=some o->H' ul=some o):KpF K C H' p pl ul ns:=by obtain⟨dx,nv,w,h1,h2,h3,h4,h5⟩:=h.ex;exact⟨⟨dx,nv,w,q1 _ h1,h2.nm_fz f,Is.fz f _ _ (au5 _ _) h3,q2 _ h4,q3 _ h5⟩,h.nd,h.few⟩
theorem KpF.same {K:W.Frag}{C:Addr}{H H':Hp}{p pl ul:Addr}{ns:List Str}(h:KpF K C H p pl ul ns)(e:Same H H'):KpF K C H' p pl ul ns:=h.of e.fz (e p) (e pl) (e ul)
theorem KpF.ext {K:W.Frag}{C x:Addr}{o:HO}{H H':Hp}{p pl ul:Addr}{ns:List Str}(h:KpF K C H p pl ul ns)(e:ExtBut x H H')(f:Fz H H')(hx:H x=some o)(n1:∀ C dx fs,o ≠ .ins C dx fs)(n2:∀ xs,o ≠ .lst xs):KpF K C H' p pl ul ns:=by
 obtain⟨dx,nv,w,h1,h2,h3,h4,h5⟩:=h.ex;refine h.of f (λo' q=>e _ _ (λz=>?_) q) (λo' q=>e _ _ (λz=>?_) q) (λo' q=>e _ _ (λz=>?_) q)
 . subst z;rw[h1] at hx;exact n1 _ _ _ (A0O hx).symm
 . subst z;rw[h4] at hx;exact n2 _ (A0O hx).symm
 subst z;rw[h5] at hx;exact n2 _ (A0O hx).symm
def aQ9 (H:Hp)(C:Addr)(E:XK):Prop:=∀ a H',Same H H'->ExB false H' a C []->E (.ref a) none H'
def El (C C_NoMore:Addr)(K:W.Frag):Sp:=λvs H Q E=>∃ p pl ul ns,vs=[.ref p]/\KpF K C H p pl ul ns/\aQ9 H C_NoMore E
def G9 (C C_NoMore:Addr)(K:W.Frag):Sp:=El C C_NoMore K
theorem Nj {f:Addr}{fd:FuncData}(F:Fun K "undo" "Keeper.undo" De f fd)(T:Gg mg){C_Keeper:Addr}(k_Keeper:Av K C_Keeper){C_HalfError:Addr}{C_NoName:Addr}{C_NoMore:Addr}(x_HalfError:Ap K mg C_HalfError C_HalfError)(x_NoName:Bv K mg C_NoName C_HalfError)(x_NoMore:G0 K mg C_NoMore C_HalfError):FnOk P w K mg base (CX1 P w) 1 f fd ["self"] (El C_Keeper C_NoMore K):=by
 refine F.ok1 Pb (λvs H Q E h=>?_) (λcdv A outer s H vs Q E hr h=>?_)
 . obtain⟨p,pl,ul,ns,rfl,_⟩:=h;rfl
 obtain⟨p,pl,ul,ns,rfl,hK,k1⟩:=h;have hu:=Cg hr;have hq:=Cf hr;obtain⟨dx,nv,w,h1,h2,h3,h4,h5⟩:=hK.ex
 with_reducible refine⟨_,(A3 (Cq (An (C5 (K:=K) hq) (Ae (By (K:=K)) ⋯ T.b_len PyProof.Rows.Boot.«len» (A1 (Ds (C:=C_Keeper) (pv 0) k_Keeper.cl k_Keeper.n_past ⋯) A2)) A6 (Ay _)) (A5 (Kl ⋯ (Zg x_NoMore.mk0 ⋯ (A1 Ab A2)))) Ax)
  (A3 (Bs (Eh (K:=K) A0I A0V A0W (mm Bg) (Ds (C:=C_Keeper) (pv 0) k_Keeper.cl k_Keeper.n_undone ⋯) (A1 (Ds (C:=C_Keeper) (pv 0) k_Keeper.cl k_Keeper.n_now ⋯) A2)))
  (A5 (K4 (C:=C_Keeper) (pv 0) (Qg (K:=K) A0I A4V A4W (mm ak8) (Ds (C:=C_Keeper) (pv 0) k_Keeper.cl k_Keeper.n_past ⋯)) k_Keeper.cl k_Keeper.n_now ⋯)))),?_⟩
 symm
 refine M6 h1 (by rfl) ?_
 symm
 refine Ig (λhc=>?_) (λhc=>absurd rfl hc)
 symm
 refine ai8 ∅ λa H4 ha4 e4 hE=>?_
 symm
 exact Ld hE x_NoMore.xc ha4 λH5 kp hE5=>k1 a H5 (λb o q=>kp b o (ne_of_none q ha4) (e4 _ _ q)) hE5
theorem Nb {f:Addr}{fd:FuncData}(F:Fun K "redo" "Keeper.redo" Dc f fd)(T:Gg mg){C_Keeper:Addr}(k_Keeper:Av K C_Keeper){C_HalfError:Addr}{C_NoName:Addr}{C_NoMore:Addr}(x_HalfError:Ap K mg C_HalfError C_HalfError)(x_NoName:Bv K mg C_NoName C_HalfError)(x_NoMore:G0 K mg C_NoMore C_HalfError):FnOk P w K mg base (CX1 P w) 1 f fd ["self"] (G9 C_Keeper C_NoMore K):=by
 refine F.ok1 Ot (λvs H Q E h=>?_) (λcdv A outer s H vs Q E hr h=>?_)
 . obtain⟨p,pl,ul,ns,rfl,_⟩:=h;rfl
 obtain⟨p,pl,ul,ns,rfl,hK,k1⟩:=h;have hu:=Cg hr;have hq:=Cf hr;obtain⟨dx,nv,w,h1,h2,h3,h4,h5⟩:=hK.ex
 with_reducible refine⟨_,(A3 (Cq (An (C5 (K:=K) hq) (Ae (By (K:=K)) ⋯ T.b_len PyProof.Rows.Boot.«len» (A1 (Ds (C:=C_Keeper) (pv 0) k_Keeper.cl k_Keeper.n_undone ⋯) A2)) A6 (Ay _)) (A5 (Kl ⋯ (Zg x_NoMore.mk0 ⋯ (A1 Ab A2)))) Ax)
  (A3 (Bs (Eh (K:=K) A0I A0V A0W (mm Bg) (Ds (C:=C_Keeper) (pv 0) k_Keeper.cl k_Keeper.n_past ⋯) (A1 (Ds (C:=C_Keeper) (pv 0) k_Keeper.cl k_Keeper.n_now ⋯) A2)))
  (A5 (K4 (C:=C_Keeper) (pv 0) (Qg (K:=K) A0I A4V A4W (mm ak8) (Ds (C:=C_Keeper) (pv 0) k_Keeper.cl k_Keeper.n_undone ⋯)) k_Keeper.cl k_Keeper.n_now ⋯)))),?_⟩
 symm
 refine M6 h1 (by rfl) ?_
 symm
 refine Ig (λhc=>?_) (λhc=>absurd rfl hc)
 symm
 refine ai8 ∅ λa H4 ha4 e4 hE=>?_
 symm
 exact Ld hE x_NoMore.xc ha4 λH5 kp hE5=>k1 a H5 (λb o q=>kp b o (ne_of_none q ha4) (e4 _ _ q)) hE5
theorem Hs (x y:Str):Be [] x y=false:=by
 cases e:Be [] x y with
 |false=>rfl
 |true=>have:=(wayB_iff.mp e).left;simp at this
def Fg (C:Addr)(K:W.Frag):Sp:=λvs H Q _=>∃ p pl ul ns,vs=[.ref p]/\KpF K C H p pl ul ns/\∀ H',Same H H'->Q (.int ((fac ns.length:Nat):Int)) H'
theorem On {f:Addr}{fd:FuncData}(F:Fun K "many" "Keeper.many" Dd f fd)(T:Gg mg){C_Keeper:Addr}(k_Keeper:Av K C_Keeper)(Uv:Fnd P w K mg base 14 "count" ["half"] (R9 K))(Af:Mtd P w K mg base 1 C_Keeper "half" ["self"] (Bk C_Keeper K)):FnOk P w K mg base CX0 15 f fd ["self"] (Fg C_Keeper K):=by
 refine F.ok Op (λvs H Q E h=>?_) (λcdv A outer s H vs Q E hr h=>?_)
 . obtain⟨p,pl,ul,ns,rfl,_⟩:=h;rfl
 obtain⟨p,pl,ul,ns,rfl,hK,k⟩:=h;have hu:=Cg hr;have hq:=Cf hr;obtain⟨dx,nv,w,h1,h2,h3,h4,h5⟩:=hK.ex
 with_reducible refine⟨_,(A5 (At (Ch Uv (hr.mono ∅) ⋯ (A1 (Jr (C:=C_Keeper) (pv 0) k_Keeper.cl Af (hr.mono ∅)) A2)))),?_⟩
 symm
 refine K2 h1 (by rfl) ?_
 symm
 refine⟨p,ns,[],0,rfl,hK.at,λu1 H1 e1 hu1=>?_⟩
 symm
 refine⟨u1,ns,[],rfl,hu1,hK.at.c.c,hK.few,λH2 e2=>?_⟩;rw[Nw (b:=Be []) Hs ns.length ns rfl hK.nd.1];exact k H2 (e1.trans e2)
def Ha (P C:Addr)(K:W.Frag):Sp:=λvs H Q _=>∃ p pl ul ns,vs=[.ref p]/\KpF K C H p pl ul ns/\LmT P H/\∀ u H',ExtBut P H H'->LmT P H'->aA1 K H' ns [] u->Q u H'
theorem Oy {f:Addr}{fd:FuncData}(F:Fun K "best" "Keeper.best" Cy f fd)(T:Gg mg){P_best:Addr}{C_Keeper:Addr}(k_Keeper:Av K C_Keeper)(Yu:Fnd P w K mg base 16 "best_questions" ["half"] (Uy P_best K))(Af:Mtd P w K mg base 1 C_Keeper "half" ["self"] (Bk C_Keeper K)):FnOk P w K mg base CX0 17 f fd ["self"] (Ha P_best C_Keeper K):=by
 refine F.ok Oj (λvs H Q E h=>?_) (λcdv A outer s H vs Q E hr h=>?_)
 . obtain⟨p,pl,ul,ns,rfl,_⟩:=h;rfl
 obtain⟨p,pl,ul,ns,rfl,hK,hT,k⟩:=h;have hu:=Cg hr;have hq:=Cf hr;obtain⟨dx,nv,w,h1,h2,h3,h4,h5⟩:=hK.ex
 with_reducible refine⟨_,(A5 (At (Ch Yu (hr.mono ∅) ⋯ (A1 (Jr (C:=C_Keeper) (pv 0) k_Keeper.cl Af (hr.mono ∅)) A2)))),?_⟩
 symm
 refine K2 h1 (by rfl) ?_
 symm
 refine⟨p,ns,[],0,rfl,hK.at,λu1 H1 e1 hu1=>?_⟩
 symm
 refine⟨u1,ns,[],rfl,hu1,hK.at.c,hK.few,hT.same e1,λu2 H2 e2 hT2 hB=>?_⟩;exact k u2 H2 (λb o hb q=>e2 _ _ hb (e1 _ _ q)) hT2 hB
theorem Kr {p q:Addr}{H H':Hp}(e:ExtBut p H H')(hq:q≠p)(h:H' q=none):H q=none:=by
 cases z:H q with
 |none=>rfl
 |some o=>rw[e q o hq z] at h;cases h
def Gz (C:Addr)(K:W.Frag):Sp:=λvs H Q _=>∃ p v dx ns,vs=[.ref p,v]/\H p=some (.ins C dx [])/\(∃ na,v = .ref na/\(SqL K H na (ns.map V.str)\/SqT K H na (ns.map V.str)))/\Names ns/\ns.length<=10/\∀ pl ul H',H pl=none->H ul=none->ExtBut p H H'->KpF K C H' p pl ul ns->Q .non H'
theorem Ol {f:Addr}{fd:FuncData}(F:Fun K "__init__" "Keeper.__init__" Cb f fd)(T:Gg mg){C_Keeper:Addr}(k_Keeper:Av K C_Keeper)(Bt:Fnd P w K mg base 3 "are_tale_names" ["thing"] (Dg K)):FnOk P w K mg base CX0 4 f fd ["self","names"] (Gz C_Keeper K):=by
 refine F.ok Js (λvs H Q E h=>?_) (λcdv A outer s H vs Q E hr h=>?_)
 . obtain⟨p,v,dx,ns,rfl,_⟩:=h;rfl
 obtain⟨p,v,dx,ns,rfl,hp,hI,hN,h10,k⟩:=h;have hu:=Cg hr;have hq:=Cf hr;obtain⟨na,rfl,hS⟩:=hI
 with_reducible refine⟨_,(A3 (Cq (PW.pt (a51 (Hf (Di (Ae (Tc (K:=K)) ⋯ T.b_isinstance PyProof.Rows.Boot.«isinstance» (A1 (pv 1) (A1 (B0 (A1 (Hm (v:=.ty "tuple") ⋯ T.b_tuple PyProof.Rows.Boot.«tuple» ⋯) (A1 (Hm (v:=.ty "list") ⋯ T.b_list PyProof.Rows.Boot.«list» ⋯) A2))) A2))))) (Sm (Hf (Di (Ch Bt (hr.mono ∅) ⋯ (A1 (As (Bd (K:=K)) ⋯ T.b_tuple PyProof.Rows.Boot.«tuple» (A1 (pv 1) A2)) A2))))))) (A5 ac2) Ax)
  (A3 (K4 (C:=C_Keeper) (pv 0) (As (Bd (K:=K)) ⋯ T.b_tuple PyProof.Rows.Boot.«tuple» (A1 (pv 1) A2)) k_Keeper.cl k_Keeper.n_names ⋯)
  (A3 (K4 (C:=C_Keeper) (pv 0) (B0 (A1 (B0 A2) (A1 A6 A2))) k_Keeper.cl k_Keeper.n_now ⋯)
  (A3 (K4 (C:=C_Keeper) (pv 0) (Bf A2) k_Keeper.cl k_Keeper.n_past ⋯)
  (A5 (K4 (C:=C_Keeper) (pv 0) (Bf A2) k_Keeper.cl k_Keeper.n_undone ⋯)))))),?_⟩
 symm
 refine B7 (A8 (by simp)) λt1 H1 ht1 e1 h1=>?_;have hp1:=e1 _ _ hp;have hS1:=hS.imp e1.seq e1.seqT
 symm
 refine ah7 (cs:=["tuple","list"]) (b:=true) hS1 h1 (by first | rfl | kernel_rfl) (by first | rfl | kernel_rfl) ?_
 symm
 refine R1 hS1 λa2 H2 e2 hS2=>?_
 symm
 refine⟨.ref a2,_,_,_,_,rfl,Xl hS2,Kx (Mx (p:=1) (W:=70) hN.2 nofun),by omega,by omega,λb H3 e3 hb=>?_⟩;obtain rfl:b=true:=hb.mpr ⟨ns,rfl,λz hz=>Z8 (hN.2 z hz),hN.1,h10⟩;have e13:=e2.trans e3
 symm
 refine R1 (hS1.imp e13.seq e13.seqT) λa4 H4 e4 hS4=>?_;have hp4:=e4 _ _ (e13 _ _ hp1)
 symm
 refine ac4 hp4 ∅ λH5 e5 h5=>?_;replace h5:H5 p=some (.ins C_Keeper dx [("names",.ref a4)]):=h5;have fz5:=e5.fzI hp4
 symm
 refine B7 (A8 (by simp)) λt6 H6 ht6 e6 h6=>?_
 symm
 refine B7 (A8 (by simp)) λt7 H7 ht7 e7 h7=>?_;have h57:=e7 _ _ (e6 _ _ h5)
 symm
 refine ac4 h57 (by show 1<1000;decide) λH8 e8 h8=>?_;replace h8:H8 p=some (.ins C_Keeper dx [("names",.ref a4),("now",.ref t7)]):=h8;have fz8:=e8.fzI h57
 symm
 refine Bq (A8 (by simp)) λpl H9 hpl e9 h9=>?_;have h89:=e9 _ _ h8;have hplp:pl≠p:=(ne_of_none h8 hpl).symm
 symm
 refine ac4 h89 (by show 2<1000;decide) λH10 e10 h10'=>?_;replace h10':H10 p=some (.ins C_Keeper dx [("names",.ref a4),("now",.ref t7),("past",.ref pl)]):=h10';have fz10:=e10.fzI h89
 symm
 refine Bq (A8 (by simp)) λul H11 hul e11 h11=>?_;have h1011:=e11 _ _ h10';have hulp:ul≠p:=(ne_of_none h10' hul).symm
 symm
 refine ac4 h1011 (by show 3<1000;decide) λH12 e12 h12=>?_;replace h12:H12 p=some (.ins C_Keeper dx [("names",.ref a4),("now",.ref t7),("past",.ref pl),("undone",.ref ul)]):=h12;have fz12:=e12.fzI h1011;have fz812:=(e9.fz.trans fz10).trans (e11.fz.trans fz12);have fz712:=fz8.trans fz812
 symm
 refine k pl ul H12 ?_ ?_ ?_ ⟨⟨dx,.ref a4,t7,h12,Xl (((fz5.trans (e6.trans e7).fz).trans fz712).seq hS4),?_,e12 _ _ hplp (e11 _ _ (e10 _ _ hplp h9)),e12 _ _ hulp h11⟩,hN,h10⟩
 . have:H5 pl=none:=(e6.trans e7).free (Kr e8 hplp hpl);exact e1.free (e13.free (e4.free (Kr e5 hplp this)))
 . have:H5 ul=none:=(e6.trans e7).free (Kr e8 hulp (e9.free (Kr e10 hulp hul)));exact e1.free (e13.free (e4.free (Kr e5 hulp this)))
 . exact λb o hb q=>e12 _ _ hb (e11 _ _ (e10 _ _ hb (e9 _ _ (e8 _ _ hb (e7 _ _ (e6 _ _ (e5 _ _ hb (e4 _ _ (e13 _ _ (e1 _ _ q))))))))))
 refine Is.of_tup (fz712.seq (SqT.of h7)) (.cons (Is.of_tup ((e7.fz.trans fz712).seq (SqT.of h6)) .nil) (.one Gv))
def Ref2 (H:Hp)(C:Addr)(z:Str)(j:Int)(E:XK):Prop:=∀ a H',Same H H'->ExB false H' a C [("word",.str z),("number",.int j)]->E (.ref a) none H'
def BadK (K:PySem.W.Frag)(H:Hp)(v:V):Prop:=(∃ c,OddT H v c)\/∃ a xs ds n w W,v = .ref a/\(SqL K H a xs\/SqT K H a xs)/\IsL K H ds xs/\Dk n w W (.tuple ds)/\w<=1000000/\W<=1000/\¬ TnD (.tuple ds)
theorem BadK.same {K:PySem.W.Frag}{H H':Hp}{v:V}(h:BadK K H v)(e:Same H H'):BadK K H' v:=by
 rcases h with ⟨c,h⟩|⟨a,xs,ds,n,w,W,h1,h2,h3,h4⟩
 . exact .inl ⟨c,h.same e⟩
 exact .inr ⟨a,xs,ds,n,w,W,h1,h2.imp e.seq e.seqT,IsL.mono e _ _ h3,h4⟩
def G3 (C C_NoHalf:Addr)(K:W.Frag):Sp:=λvs H Q E=>∃ p v,vs=[.ref p,v]/\BadK K H v/\Ref2 H C_NoHalf "tale" (-1) E
theorem Nm {f:Addr}{fd:FuncData}(F:Fun K "__init__" "Keeper.__init__" Cb f fd)(T:Gg mg){C_Keeper:Addr}(k_Keeper:Av K C_Keeper){C_HalfError:Addr}{C_NoHalf:Addr}{C_NoName:Addr}(x_HalfError:Ap K mg C_HalfError C_HalfError)(x_NoHalf:Hg K mg C_NoHalf C_HalfError)(x_NoName:Bv K mg C_NoName C_HalfError)(Bt:Fnd P w K mg base 3 "are_tale_names" ["thing"] (Dg K))(Ik:Mkx P w K mg base 1 C_NoHalf "NoHalf" ["self","word","number"] (spX C_NoHalf ["word","number"])):FnOk P w K mg base (CX1 P w) 4 f fd ["self","names"] (G3 C_Keeper C_NoHalf K):=by
 refine F.ok1 Js (λvs H Q E h=>?_) (λcdv A outer s H vs Q E hr h=>?_)
 . obtain⟨p,v,rfl,_⟩:=h;rfl
 obtain⟨p,v,rfl,hB,k⟩:=h;have hu:=Cg hr;have hq:=Cf hr
 with_reducible refine⟨_,(A3 (Cq (PW.pt (a51 (Hf (Di (Ae (Tc (K:=K)) ⋯ T.b_isinstance PyProof.Rows.Boot.«isinstance» (A1 (pv 1) (A1 (B0 (A1 (Hm (v:=.ty "tuple") ⋯ T.b_tuple PyProof.Rows.Boot.«tuple» ⋯) (A1 (Hm (v:=.ty "list") ⋯ T.b_list PyProof.Rows.Boot.«list» ⋯) A2))) A2))))) (Sm (Hf (Di (Ch Bt (hr.mono ∅) ⋯ (A1 (As (Bd (K:=K)) ⋯ T.b_tuple PyProof.Rows.Boot.«tuple» (A1 (pv 1) A2)) A2))))))) (A5 (Kl ⋯ (a56 Ik (hr.mono ∅) ⋯ (A1 Ab (A1 (af5 Vx A6) A2))))) Ax)
  (A3 (K4 (C:=C_Keeper) (pv 0) (As (Bd (K:=K)) ⋯ T.b_tuple PyProof.Rows.Boot.«tuple» (A1 (pv 1) A2)) k_Keeper.cl k_Keeper.n_names ⋯)
  (A3 (K4 (C:=C_Keeper) (pv 0) (B0 (A1 (B0 A2) (A1 A6 A2))) k_Keeper.cl k_Keeper.n_now ⋯)
  (A3 (K4 (C:=C_Keeper) (pv 0) (Bf A2) k_Keeper.cl k_Keeper.n_past ⋯)
  (A5 (K4 (C:=C_Keeper) (pv 0) (Bf A2) k_Keeper.cl k_Keeper.n_undone ⋯)))))),?_⟩
 symm
 refine B7 (A8 (by simp)) λt1 H1 ht1 e1 h1=>?_
 symm
 rcases hB with ⟨c,hO⟩|⟨na,xs,ds,n,w,W,rfl,hS,hL,hD,hw,hW,hT⟩
 . have hk:PySem.W.kitAny K (.type c) (["tuple","list"].map Value.type)=some false:=by cases hO<;>first | rfl | kernel_rfl
   refine aC6 (cs:=["tuple","list"]) (b:=false) (hO.same e1) h1 hk ?_
   symm
   refine ab7 (by rfl) ∅ λa H2 ha2 e2 hE=>?_
   symm
   exact Ld hE x_NoHalf.xc (e1.free ha2) λH3 kp hE3=>k a H3 (λb o q=>kp b o (ne_of_none (e1 _ _ q) ha2) (e2 _ _ (e1 _ _ q))) hE3
 have hS1:=hS.imp e1.seq e1.seqT;refine ah7 (cs:=["tuple","list"]) (b:=true) hS1 h1 (by first | rfl | kernel_rfl) (by first | rfl | kernel_rfl) ?_
 symm
 refine R1 hS1 λa2 H2 e2 hS2=>?_
 symm
 refine⟨.ref a2,.tuple ds,n,w,W,rfl,Is.of_tup hS2 (IsL.mono (e1.trans e2) _ _ hL),hD,hw,hW,λb H3 e3 hb=>?_⟩
 obtain rfl:b=false:=by
  cases b with
  |false=>rfl
  |true=>exact absurd (hb.mp rfl) hT
 have e13:=(e1.trans e2).trans e3
 symm
 refine ab7 (by rfl) ∅ λa H4 ha4 e4 hE=>?_
 symm
 exact Ld hE x_NoHalf.xc (e13.free ha4) λH5 kp hE5=>k a H5 (λb o q=>kp b o (ne_of_none (e13 _ _ q) ha4) (e4 _ _ (e13 _ _ q))) hE5
def aQ1 (C:Addr)(fs:List (Str×V))(C_NoName C_NoSaying C_NoMore:Addr)(D:PyData):Prop:=
 (C=C_NoName/\∃ z,fs=[(("name":Str),V.str z)]/\D = .tuple [.str "name",.str z]) \/
 (C=C_NoSaying/\∃ i,fs=[(("number":Str),V.int i)]/\D = .tuple [.str "saying",.int i])\/(C=C_NoMore/\fs=[]/\D = .tuple [.str "more"])
theorem aO1 {L:List Addr}(h:L.Nodup){i j:Nat}{a b:Addr}(hi:L[i]? = some a)(hj:L[j]? = some b)(hij:i≠j):a≠b:=λe=>by subst e;obtain⟨i1,i2⟩:=A00.mp hi;obtain⟨j1,j2⟩:=A00.mp hj;exact hij ((A1G h).mp (i2.trans j2.symm))
def G5 (C_NoName C_NoSaying C_NoMore:Addr)(K:W.Frag):Sp:=λvs H Q _=>∃ a C fs D,vs=[.ref a]/\ExB false H a C fs/\aQ1 C fs C_NoName C_NoSaying C_NoMore D/\∀ u H',Same H H'->Is K H' D u->Q u H'
theorem Ma {f:Addr}{fd:FuncData}(F:Fun K "_law_refusal" "_law_refusal" Ck f fd)(T:Gg mg){C_HalfError:Addr}{C_NoHalf:Addr}{C_NoText:Addr}{C_NoName:Addr}{C_TooMany:Addr}{C_NoCover:Addr}{C_NoPlace:Addr}{C_NoOrder:Addr}{C_NoJoin:Addr}{C_Clash:Addr}{C_NoPaper:Addr}{C_NoPlan:Addr}{C_NoBound:Addr}{C_NoSaying:Addr}{C_NoMore:Addr}(x_HalfError:Ap K mg C_HalfError C_HalfError)(x_NoHalf:Hg K mg C_NoHalf C_HalfError)(x_NoText:Lh K mg C_NoText C_HalfError)(x_NoName:Bv K mg C_NoName C_HalfError)(x_TooMany:K7 K mg C_TooMany C_HalfError)(x_NoCover:Jz K mg C_NoCover C_HalfError)(x_NoPlace:Kb K mg C_NoPlace C_HalfError)(x_NoOrder:Ke K mg C_NoOrder C_HalfError)(x_NoJoin:Lg K mg C_NoJoin C_HalfError)(x_Clash:Np K mg C_Clash C_HalfError)(x_NoPaper:Jw K mg C_NoPaper C_HalfError)(x_NoPlan:Lc K mg C_NoPlan C_HalfError)(x_NoBound:Kg K mg C_NoBound C_HalfError)(x_NoSaying:Ef K mg C_NoSaying C_HalfError)(x_NoMore:G0 K mg C_NoMore C_HalfError)(ndX:([C_HalfError,C_Clash,C_NoBound,C_NoCover,C_NoHalf,C_NoJoin,C_NoMore,C_NoName,C_NoOrder,C_NoPaper,C_NoPlace,C_NoPlan,C_NoSaying,C_NoText,C_TooMany]:List Addr).Nodup):a94 P w K mg base 1 f fd ["_law_e"] (G5 C_NoName C_NoSaying C_NoMore K):=by
 refine F.okH G1 (λvs H Q E h=>?_) (λcdv A outer s H vs Q E hr h=>?_)
 . obtain⟨a,C,fs,D,rfl,_⟩:=h;rfl
 obtain⟨a,C,fs,D,rfl,hE,hR,k⟩:=h;have hu:=aG6 hr;have hq:=aK3 hr
 obtain⟨xc,xm⟩:XC K C/\Fv K C C_HalfError=true:=by
  rcases hR with ⟨rfl,_⟩|⟨rfl,_⟩|⟨rfl,_⟩
  . exact⟨x_NoName.xc,x_NoName.mr⟩
  . exact⟨x_NoSaying.xc,x_NoSaying.mr⟩
  exact⟨x_NoMore.xc,x_NoMore.mr⟩
 have kitY:∀ {A:Addr},XC K A->W.kitOne K (.ref C) (.ref A)=some (C==A||A==C_HalfError):=λhx=>Uh xc xm hx
 have kitN:∀ {A:Addr},XC K A->C≠A->A≠C_HalfError->W.kitOne K (.ref C) (.ref A)=some false:=λhx h1 h2=>by rw[kitY hx,A0Y.mpr h1,A0Y.mpr h2];rfl
 have kitS:(∀ A∈[C_NoBound,C_NoCover,C_NoHalf,C_NoJoin,C_NoOrder,C_NoPaper,C_NoPlace,C_NoPlan,C_NoText],C≠A/\A≠C_HalfError/\XC K A)->W.kitAny K (.ref C) ([C_NoBound,C_NoCover,C_NoHalf,C_NoJoin,C_NoOrder,C_NoPaper,C_NoPlace,C_NoPlan,C_NoText].map Value.ref)=some false:=λh=>by simp only[List.mem_cons,List.not_mem_nil,or_false,forall_eq_or_imp,forall_eq] at h;obtain⟨⟨a0,b0,c0⟩,⟨a1,b1,c1⟩,⟨a2,b2,c2⟩,⟨a3,b3,c3⟩,⟨a4,b4,c4⟩,⟨a5,b5,c5⟩,⟨a6,b6,c6⟩,⟨a7,b7,c7⟩,⟨a8,b8,c8⟩⟩:=h;simp only[List.map_cons,List.map_nil,W.kitAny,kitN c0 a0 b0,kitN c1 a1 b1,kitN c2 a2 b2,kitN c3 a3 b3,kitN c4 a4 b4,kitN c5 a5 b5,kitN c6 a6 b6,kitN c7 a7 b7,kitN c8 a8 b8]
 with_reducible refine⟨_,(A3 (Ad (i:=1) G1.nd ⋯ (by eq_refl) (Bf A2))
  (A3 (Cq (Di (Ae (Cr (K:=K)) ⋯ T.b_isinstance PyProof.Rows.Boot.«isinstance» (A1 (pv 0) (A1 (Dt (v:=.ref C_Clash) ⋯ ⟨_,x_Clash.gl,⋯⟩) A2)))) (A5 (Bs (Eh (K:=K) A0I A0V A0W (mm Bg) (pv 1) (A1 (B0 (A1 Ab (A1 (Jl (K:=K) (pv 0) ⋯) A2))) A2)))) Ax)
  (A3 (Cq (Di (Ae (Cr (K:=K)) ⋯ T.b_isinstance PyProof.Rows.Boot.«isinstance» (A1 (pv 0) (A1 (Dt (v:=.ref C_NoName) ⋯ ⟨_,x_NoName.gl,⋯⟩) A2)))) (A5 (Bs (Eh (K:=K) A0I A0V A0W (mm Bg) (pv 1) (A1 (B0 (A1 Ab (A1 (Jl (K:=K) (pv 0) ⋯) A2))) A2)))) Ax)
  (A3 (Cq (Di (Ae (Cr (K:=K)) ⋯ T.b_isinstance PyProof.Rows.Boot.«isinstance» (A1 (pv 0) (A1 (Dt (v:=.ref C_NoSaying) ⋯ ⟨_,x_NoSaying.gl,⋯⟩) A2)))) (A5 (Bs (Eh (K:=K) A0I A0V A0W (mm Bg) (pv 1) (A1 (B0 (A1 Ab (A1 (Jl (K:=K) (pv 0) ⋯) A2))) A2)))) Ax)
  (A3 (Cq (Di (Ae (Cr (K:=K)) ⋯ T.b_isinstance PyProof.Rows.Boot.«isinstance» (A1 (pv 0) (A1 (Dt (v:=.ref C_TooMany) ⋯ ⟨_,x_TooMany.gl,⋯⟩) A2)))) (A5 (Bs (Eh (K:=K) A0I A0V A0W (mm Bg) (pv 1) (A1 (B0 (A1 Ab (A1 (Jl (K:=K) (pv 0) ⋯) A2))) A2)))) Ax)
  (A3 (Cq (Di (Ae (Cr (K:=K)) ⋯ T.b_isinstance PyProof.Rows.Boot.«isinstance» (A1 (pv 0) (A1 (Dt (v:=.ref C_NoMore) ⋯ ⟨_,x_NoMore.gl,⋯⟩) A2)))) (A5 (Bs (Eh (K:=K) A0I A0V A0W (mm Bg) (pv 1) (A1 (B0 (A1 Ab A2)) A2)))) Ax)
  (A3 (Ad (i:=2) G1.nd ⋯ (by eq_refl) (Ae (Cr (K:=K)) ⋯ T.b_isinstance PyProof.Rows.Boot.«isinstance» (A1 (pv 0) (A1 (B0 (A1 (Dt (v:=.ref C_NoBound) ⋯ ⟨_,x_NoBound.gl,⋯⟩) (A1 (Dt (v:=.ref C_NoCover) ⋯ ⟨_,x_NoCover.gl,⋯⟩) (A1 (Dt (v:=.ref C_NoHalf) ⋯ ⟨_,x_NoHalf.gl,⋯⟩) (A1 (Dt (v:=.ref C_NoJoin) ⋯ ⟨_,x_NoJoin.gl,⋯⟩) (A1 (Dt (v:=.ref C_NoOrder) ⋯ ⟨_,x_NoOrder.gl,⋯⟩) (A1 (Dt (v:=.ref C_NoPaper) ⋯ ⟨_,x_NoPaper.gl,⋯⟩) (A1 (Dt (v:=.ref C_NoPlace) ⋯ ⟨_,x_NoPlace.gl,⋯⟩) (A1 (Dt (v:=.ref C_NoPlan) ⋯ ⟨_,x_NoPlan.gl,⋯⟩) (A1 (Dt (v:=.ref C_NoText) ⋯ ⟨_,x_NoText.gl,⋯⟩) A2)))))))))) A2))))
  (A5 (At (Fh (PW.pt (Ph (An (C5 (K:=K) hq) (Ae (By (K:=K)) ⋯ T.b_len PyProof.Rows.Boot.«len» (A1 (pv 1) A2)) A6 (Ay _)) (Ph (Hf (Di (pv 2))) (R0 (Di (Ae (Cr (K:=K)) ⋯ T.b_isinstance PyProof.Rows.Boot.«isinstance» (A1 (pv 0) (A1 (Hm (v:=.ty "ValueError") ⋯ T.b_ValueError PyProof.Rows.Boot.«ValueError» ⋯) A2)))))))) (Ak (A7 (K:=K) hu) (pv 1) A6 (by ac_rfl)) (B0 (A1 Ab A2)))))))))))),?_⟩
 symm
 refine Bq (A8 (by simp)) λl H1 hl1 e1 h1=>?_;have hE1:=hE.same e1;have fld:∀ {i j:Nat} {A B:Addr},[C_HalfError,C_Clash,C_NoBound,C_NoCover,C_NoHalf,C_NoJoin,C_NoMore,C_NoName,C_NoOrder,C_NoPaper,C_NoPlace,C_NoPlan,C_NoSaying,C_NoText,C_TooMany][i]? = some A->[C_HalfError,C_Clash,C_NoBound,C_NoCover,C_NoHalf,C_NoJoin,C_NoMore,C_NoName,C_NoOrder,C_NoPaper,C_NoPlace,C_NoPlan,C_NoSaying,C_NoText,C_TooMany][j]? = some B->i≠j->A≠B:=λh1 h2 h3=>aO1 ndX h1 h2 h3;rcases hR with ⟨rfl,z,rfl,rfl⟩|⟨rfl,i,rfl,rfl⟩|⟨rfl,rfl,rfl⟩
 . symm
   refine Jm hE1 xc (kitN x_Clash.xc (fld (i:=7) (j:=1) rfl rfl ∅) (fld (i:=1) (j:=0) rfl rfl ∅)) ?_
   symm
   refine Jm hE1 xc (show _=some true by rw[kitY x_NoName.xc,A2M,A4U]) ?_
   symm
   refine Vb hE1 xc x_NoName.n_name (show _=some _ from rfl) ?_
   symm
   refine B7 (A8 (by simp)) λt2 H2 ht2 e2 h2=>?_
   symm
   refine Iy (e2 _ _ h1) (by simp) λH3 e3 h3=>?_;have e03:Same H H3:=(e1.trans e2).off hl1 e3;have hE3:=hE.same e03;have ht3:SqT K H3 t2 _:=(e3.fzL (e2 _ _ h1)).seq (SqT.of h2)
   symm
   refine Jm hE3 xc (kitN x_NoSaying.xc (fld (i:=7) (j:=12) rfl rfl ∅) (fld (i:=12) (j:=0) rfl rfl ∅)) ?_
   symm
   refine Jm hE3 xc (kitN x_TooMany.xc (fld (i:=7) (j:=14) rfl rfl ∅) (fld (i:=14) (j:=0) rfl rfl ∅)) ?_
   symm
   refine Jm hE3 xc (kitN x_NoMore.xc (fld (i:=7) (j:=6) rfl rfl ∅) (fld (i:=6) (j:=0) rfl rfl ∅)) ?_
   symm
   refine B7 (A8 (by simp)) λt4 H4 ht4 e4 h4=>?_;have hE4:=hE3.same e4;have e0n:Same H H4:=e03.trans e4
   symm
   refine T2 (cs:=[C_NoBound,C_NoCover,C_NoHalf,C_NoJoin,C_NoOrder,C_NoPaper,C_NoPlace,C_NoPlan,C_NoText]) hE4 xc h4 (kitS λA hA=>?_) ?_
   . simp only[List.mem_cons,List.not_mem_nil,or_false] at hA;rcases hA with rfl|rfl|rfl|rfl|rfl|rfl|rfl|rfl|rfl
     . exact⟨fld (i:=7) (j:=2) rfl rfl ∅,fld (i:=2) (j:=0) rfl rfl ∅,x_NoBound.xc⟩
     . exact⟨fld (i:=7) (j:=3) rfl rfl ∅,fld (i:=3) (j:=0) rfl rfl ∅,x_NoCover.xc⟩
     . exact⟨fld (i:=7) (j:=4) rfl rfl ∅,fld (i:=4) (j:=0) rfl rfl ∅,x_NoHalf.xc⟩
     . exact⟨fld (i:=7) (j:=5) rfl rfl ∅,fld (i:=5) (j:=0) rfl rfl ∅,x_NoJoin.xc⟩
     . exact⟨fld (i:=7) (j:=8) rfl rfl ∅,fld (i:=8) (j:=0) rfl rfl ∅,x_NoOrder.xc⟩
     . exact⟨fld (i:=7) (j:=9) rfl rfl ∅,fld (i:=9) (j:=0) rfl rfl ∅,x_NoPaper.xc⟩
     . exact⟨fld (i:=7) (j:=10) rfl rfl ∅,fld (i:=10) (j:=0) rfl rfl ∅,x_NoPlace.xc⟩
     . exact⟨fld (i:=7) (j:=11) rfl rfl ∅,fld (i:=11) (j:=0) rfl rfl ∅,x_NoPlan.xc⟩
     exact⟨fld (i:=7) (j:=13) rfl rfl ∅,fld (i:=13) (j:=0) rfl rfl ∅,x_NoText.xc⟩
   symm
   refine Le ?_;have h4l:=e4 _ _ h3
   symm
   refine Ig (λ_=>?_) (λhc=>absurd rfl hc)
   symm
   refine Vo hE4 xc (R5 xm) ?_
   symm
   refine Lo h4l (v:=.ref t2) (Dl (j:=0) rfl) ?_
   symm
   exact k _ H4 e0n (Is.of_tup (e4.seqT ht3) (.cons Dp (.one Dp)))
 . symm
   refine Jm hE1 xc (kitN x_Clash.xc (fld (i:=12) (j:=1) rfl rfl ∅) (fld (i:=1) (j:=0) rfl rfl ∅)) ?_
   symm
   refine Jm hE1 xc (kitN x_NoName.xc (fld (i:=12) (j:=7) rfl rfl ∅) (fld (i:=7) (j:=0) rfl rfl ∅)) ?_
   symm
   refine Jm hE1 xc (show _=some true by rw[kitY x_NoSaying.xc,A2M,A4U]) ?_
   symm
   refine Vb hE1 xc x_NoSaying.n_number (show _=some _ from rfl) ?_
   symm
   refine B7 (A8 (by simp)) λt2 H2 ht2 e2 h2=>?_
   symm
   refine Iy (e2 _ _ h1) (by simp) λH3 e3 h3=>?_;have e03:Same H H3:=(e1.trans e2).off hl1 e3;have hE3:=hE.same e03;have ht3:SqT K H3 t2 _:=(e3.fzL (e2 _ _ h1)).seq (SqT.of h2)
   symm
   refine Jm hE3 xc (kitN x_TooMany.xc (fld (i:=12) (j:=14) rfl rfl ∅) (fld (i:=14) (j:=0) rfl rfl ∅)) ?_
   symm
   refine Jm hE3 xc (kitN x_NoMore.xc (fld (i:=12) (j:=6) rfl rfl ∅) (fld (i:=6) (j:=0) rfl rfl ∅)) ?_
   symm
   refine B7 (A8 (by simp)) λt4 H4 ht4 e4 h4=>?_;have hE4:=hE3.same e4;have e0n:Same H H4:=e03.trans e4
   symm
   refine T2 (cs:=[C_NoBound,C_NoCover,C_NoHalf,C_NoJoin,C_NoOrder,C_NoPaper,C_NoPlace,C_NoPlan,C_NoText]) hE4 xc h4 (kitS λA hA=>?_) ?_
   . simp only[List.mem_cons,List.not_mem_nil,or_false] at hA;rcases hA with rfl|rfl|rfl|rfl|rfl|rfl|rfl|rfl|rfl
     . exact⟨fld (i:=12) (j:=2) rfl rfl ∅,fld (i:=2) (j:=0) rfl rfl ∅,x_NoBound.xc⟩
     . exact⟨fld (i:=12) (j:=3) rfl rfl ∅,fld (i:=3) (j:=0) rfl rfl ∅,x_NoCover.xc⟩
     . exact⟨fld (i:=12) (j:=4) rfl rfl ∅,fld (i:=4) (j:=0) rfl rfl ∅,x_NoHalf.xc⟩
     . exact⟨fld (i:=12) (j:=5) rfl rfl ∅,fld (i:=5) (j:=0) rfl rfl ∅,x_NoJoin.xc⟩
     . exact⟨fld (i:=12) (j:=8) rfl rfl ∅,fld (i:=8) (j:=0) rfl rfl ∅,x_NoOrder.xc⟩
     . exact⟨fld (i:=12) (j:=9) rfl rfl ∅,fld (i:=9) (j:=0) rfl rfl ∅,x_NoPaper.xc⟩
     . exact⟨fld (i:=12) (j:=10) rfl rfl ∅,fld (i:=10) (j:=0) rfl rfl ∅,x_NoPlace.xc⟩
     . exact⟨fld (i:=12) (j:=11) rfl rfl ∅,fld (i:=11) (j:=0) rfl rfl ∅,x_NoPlan.xc⟩
     exact⟨fld (i:=12) (j:=13) rfl rfl ∅,fld (i:=13) (j:=0) rfl rfl ∅,x_NoText.xc⟩
   symm
   refine Le ?_;have h4l:=e4 _ _ h3
   symm
   refine Ig (λ_=>?_) (λhc=>absurd rfl hc)
   symm
   refine Vo hE4 xc (R5 xm) ?_
   symm
   refine Lo h4l (v:=.ref t2) (Dl (j:=0) rfl) ?_
   symm
   exact k _ H4 e0n (Is.of_tup (e4.seqT ht3) (.cons Dp (.one Gv)))
 symm
 refine Jm hE1 xc (kitN x_Clash.xc (fld (i:=6) (j:=1) rfl rfl ∅) (fld (i:=1) (j:=0) rfl rfl ∅)) ?_
 symm
 refine Jm hE1 xc (kitN x_NoName.xc (fld (i:=6) (j:=7) rfl rfl ∅) (fld (i:=7) (j:=0) rfl rfl ∅)) ?_
 symm
 refine Jm hE1 xc (kitN x_NoSaying.xc (fld (i:=6) (j:=12) rfl rfl ∅) (fld (i:=12) (j:=0) rfl rfl ∅)) ?_
 symm
 refine Jm hE1 xc (kitN x_TooMany.xc (fld (i:=6) (j:=14) rfl rfl ∅) (fld (i:=14) (j:=0) rfl rfl ∅)) ?_
 symm
 refine Jm hE1 xc (show _=some true by rw[kitY x_NoMore.xc,A2M,A4U]) ?_
 symm
 refine B7 (A8 (by simp)) λt2 H2 ht2 e2 h2=>?_
 symm
 refine Iy (e2 _ _ h1) (by simp) λH3 e3 h3=>?_;have e03:Same H H3:=(e1.trans e2).off hl1 e3;have hE3:=hE.same e03;have ht3:SqT K H3 t2 _:=(e3.fzL (e2 _ _ h1)).seq (SqT.of h2)
 symm
 refine B7 (A8 (by simp)) λt4 H4 ht4 e4 h4=>?_;have hE4:=hE3.same e4;have e0n:Same H H4:=e03.trans e4
 symm
 refine T2 (cs:=[C_NoBound,C_NoCover,C_NoHalf,C_NoJoin,C_NoOrder,C_NoPaper,C_NoPlace,C_NoPlan,C_NoText]) hE4 xc h4 (kitS λA hA=>?_) ?_
 . simp only[List.mem_cons,List.not_mem_nil,or_false] at hA;rcases hA with rfl|rfl|rfl|rfl|rfl|rfl|rfl|rfl|rfl
   . exact⟨fld (i:=6) (j:=2) rfl rfl ∅,fld (i:=2) (j:=0) rfl rfl ∅,x_NoBound.xc⟩
   . exact⟨fld (i:=6) (j:=3) rfl rfl ∅,fld (i:=3) (j:=0) rfl rfl ∅,x_NoCover.xc⟩
   . exact⟨fld (i:=6) (j:=4) rfl rfl ∅,fld (i:=4) (j:=0) rfl rfl ∅,x_NoHalf.xc⟩
   . exact⟨fld (i:=6) (j:=5) rfl rfl ∅,fld (i:=5) (j:=0) rfl rfl ∅,x_NoJoin.xc⟩
   . exact⟨fld (i:=6) (j:=8) rfl rfl ∅,fld (i:=8) (j:=0) rfl rfl ∅,x_NoOrder.xc⟩
   . exact⟨fld (i:=6) (j:=9) rfl rfl ∅,fld (i:=9) (j:=0) rfl rfl ∅,x_NoPaper.xc⟩
   . exact⟨fld (i:=6) (j:=10) rfl rfl ∅,fld (i:=10) (j:=0) rfl rfl ∅,x_NoPlace.xc⟩
   . exact⟨fld (i:=6) (j:=11) rfl rfl ∅,fld (i:=11) (j:=0) rfl rfl ∅,x_NoPlan.xc⟩
   exact⟨fld (i:=6) (j:=13) rfl rfl ∅,fld (i:=13) (j:=0) rfl rfl ∅,x_NoText.xc⟩
 symm
 refine Le ?_;have h4l:=e4 _ _ h3
 symm
 refine Ig (λ_=>?_) (λhc=>absurd rfl hc)
 symm
 refine Vo hE4 xc (R5 xm) ?_
 symm
 refine Lo h4l (v:=.ref t2) (Dl (j:=0) rfl) ?_
 symm
 exact k _ H4 e0n (Is.of_tup (e4.seqT ht3) (.one Dp))
def Em (C:Addr)(K:W.Frag):Sp:=λvs H Q _=>∃ p pl ul ns w v1 v2,vs=[.ref p,.str w,v1,v2]/\KpF K C H p pl ul ns /\
 (((w=("undo":Str)\/w=("redo":Str))/\∀ u H',Same H H'->Is K H' (.tuple [.str "more"]) u->Q u H') \/
  (w=("saying":Str)/\∃ i,v1 = .int i/\∀ u H',Same H H'->Is K H' (.tuple [.str "saying",.int i]) u->Q u H') \/
  ((w=("lead":Str)\/w=("knows":Str))/\∃ x y,v1 = .str x/\v2 = .str y/\(∀ z u H',al4 ns [x,y] z->Same H H'->Is K H' (.tuple [.str "name",.str z]) u->Q u H')/\(x∈ns->y∈ns->∀ H',Same H H'->Q (if w=("knows":Str)/\x=y then .bl false else .non) H')))
local macro_rules | `(tactic| walk_at "rq1") => L2.mAlts "i_nxS i_tMeth"
theorem ak3 {K:W.Frag}{C B:Addr}(hm:Fv K C B=true):W.mroIn K C (.ref B)=some true:=by obtain⟨cd,hc,hx⟩:=A4E hm;unfold W.mroIn;rw[hc,Option.bind_some,beq_iff_eq.mp hx,if_neg (by simp),List.contains_cons,List.contains_cons,beq_self_eq_true,Bool.true_or,Bool.or_true]
theorem aI9 {x y:Str}{js:List Nat}{os:List Str}(h:Trl [] x js y os):x=y:=by
 match js,h with
 | [],h=>have:os=[]:=A1C.mp h.len;subst this;exact(A0O h.hd).symm
 |j :: r,h=>
   obtain⟨a1,b1,_,_,hps⟩:=h.ed 0 j rfl
   cases hps
theorem Nd {f:Addr}{fd:FuncData}(F:Fun K "_law_told_by" "_law_told_by" Cp f fd)(T:Gg mg){C_Keeper:Addr}(k_Keeper:Av K C_Keeper){C_HalfError:Addr}{C_NoName:Addr}{C_NoSaying:Addr}{C_NoMore:Addr}(x_HalfError:Ap K mg C_HalfError C_HalfError)(x_NoName:Bv K mg C_NoName C_HalfError)(x_NoSaying:Ef K mg C_NoSaying C_HalfError)(x_NoMore:G0 K mg C_NoMore C_HalfError)(ndX:([C_HalfError,C_Clash,C_NoBound,C_NoCover,C_NoHalf,C_NoJoin,C_NoMore,C_NoName,C_NoOrder,C_NoPaper,C_NoPlace,C_NoPlan,C_NoSaying,C_NoText,C_TooMany]:List Addr).Nodup)(Ja:Tr P w K mg base 1 C_Keeper "say" ["self","name","other"] (Jp C_Keeper C_NoName C_Clash C_TooMany K))(Hr:Tr P w K mg base 1 C_Keeper "take" ["self","number"] (J3 C_Keeper C_NoSaying K))(Hz:Tr P w K mg base 1 C_Keeper "undo" ["self"] (El C_Keeper C_NoMore K))(Ih:Tr P w K mg base 1 C_Keeper "redo" ["self"] (G9 C_Keeper C_NoMore K))(G6:Tr P w K mg base 3 C_Keeper "saying" ["self","number"] (Ex C_Keeper C_NoSaying K))(Gy:Tr P w K mg base 4 C_Keeper "knows" ["self","name","other"] (Fo C_Keeper C_NoName K))(Ie:Tr P w K mg base 4 C_Keeper "lead" ["self","name","other"] (G2 C_Keeper C_NoName K))(h__law_refusal:aM2 P w K mg base 1 "_law_refusal" ["_law_e"] (G5 C_NoName C_NoSaying C_NoMore K)):FnOk P w K mg base CX0 5 f fd ["_law_keeper","_law_word","_law_one","_law_other"] (Em C_Keeper K):=by
 refine F.ok Aw (λvs H Q E h=>?_) (λcdv A outer s H vs Q E hr h=>?_)
 . obtain⟨p,pl,ul,ns,w,v1,v2,rfl,_⟩:=h;rfl
 obtain⟨p,pl,ul,ns,w,v1,v2,rfl,hK,hw⟩:=h;have hu:=Cg hr;have hq:=Cf hr;obtain⟨xG,hG⟩:∃ G:Addr->Hp->Prop,G=λa H'=>∃ C fs D,XC K C/\Fv K C C_HalfError=true/\ExB false H' a C fs/\aQ1 C fs C_NoName C_NoSaying C_NoMore D/\∀ u H'',Same H' H''->Is K H'' D u->Q u H'':=⟨_,rfl⟩;obtain⟨dx,nv,w0,h1,h2,h3,h4,h5⟩:=hK.ex
 with_reducible refine⟨_,(A3 (Ad (i:=4) Aw.nd ⋯ (by eq_refl) G4)
  (A3 (ah0 (i:=5) xG Aw.nd ⋯ ⋯ ⋯ x_HalfError.gl x_HalfError.xc ⋯ ⋯ ⋯ (λ_ _ hps=>(A5 (Cq (An (C5 (K:=K) hq) (pv 1) Ab (Ay _)) (A5 (Ad (i:=4) Aw.nd ⋯ (by eq_refl) (Rr (C:=C_Keeper) (pv 0) k_Keeper.cl Ja (hr.mono ∅) hps (A1 (pv 2) (A1 (pv 3) A2))))) (A5 (Cq (An (C5 (K:=K) hq) (pv 1) Ab (Ay _)) (A5 (Ad (i:=4) Aw.nd ⋯ (by eq_refl) (Rr (C:=C_Keeper) (pv 0) k_Keeper.cl Hr (hr.mono ∅) hps (A1 (pv 2) A2)))) (A5 (Cq (An (C5 (K:=K) hq) (pv 1) Ab (Ay _)) (A5 (Ad (i:=4) Aw.nd ⋯ (by eq_refl) (Xs (C:=C_Keeper) (pv 0) k_Keeper.cl Hz (hr.mono ∅) hps))) (A5 (Cq (An (C5 (K:=K) hq) (pv 1) Ab (Ay _)) (A5 (Ad (i:=4) Aw.nd ⋯ (by eq_refl) (Xs (C:=C_Keeper) (pv 0) k_Keeper.cl Ih (hr.mono ∅) hps))) (A5 (Cq (An (C5 (K:=K) hq) (pv 1) Ab (Ay _)) (A5 (Ad (i:=4) Aw.nd ⋯ (by eq_refl) (Rr (C:=C_Keeper) (pv 0) k_Keeper.cl G6 (hr.mono ∅) hps (A1 (pv 2) A2)))) (A5 (Ad (i:=4) Aw.nd ⋯ (by eq_refl) (Fh (An (C5 (K:=K) hq) (pv 1) Ab (Ay _)) (Rr (C:=C_Keeper) (pv 0) k_Keeper.cl Ie (hr.mono ∅) hps (A1 (pv 2) (A1 (pv 3) A2))) (Rr (C:=C_Keeper) (pv 0) k_Keeper.cl Gy (hr.mono ∅) hps (A1 (pv 2) (A1 (pv 3) A2)))))))))))))))))
  (λ_ _=>(A5 (Ad (i:=4) Aw.nd ⋯ (by eq_refl) (ay3 h__law_refusal ((hr.mono ∅).h _) ⋯ (A1 (pv 5) A2))))))
  (A5 (At (pv 4))))),?_⟩
 symm
 refine⟨?_,λa H' σ' hl hg=>?_⟩
 . rcases hw with ⟨hw,k1⟩|⟨rfl,i,rfl,k1⟩|⟨hw,x,y,rfl,rfl,k1,k2⟩
   . have nm:aQ9 H C_NoMore λv o H'=>∃ a,v = .ref a/\xG a H':=λa H' e hE=>⟨a,rfl,by rw[hG];exact⟨C_NoMore,_,_,x_NoMore.xc,x_NoMore.mr,hE,.inr (.inr ⟨rfl,rfl,rfl⟩),λu H'' e2 hu=>k1 u H'' (e.trans e2) hu⟩⟩;rcases hw with rfl|rfl
     . symm
       refine Ig (λhc=>absurd hc (by decide +kernel)) (λ_=>?_)
       symm
       refine Ig (λhc=>absurd hc (by decide +kernel)) (λ_=>?_)
       symm
       refine K2 h1 (by rfl) ?_
       symm
       exact⟨p,pl,ul,ns,rfl,hK,nm⟩
     symm
     refine Ig (λhc=>absurd hc (by decide +kernel)) (λ_=>?_)
     symm
     refine Ig (λhc=>absurd hc (by decide +kernel)) (λ_=>?_)
     symm
     refine Ig (λhc=>absurd hc (by decide +kernel)) (λ_=>?_)
     symm
     refine K2 h1 (by rfl) ?_
     symm
     exact⟨p,pl,ul,ns,rfl,hK,nm⟩
   . symm
     refine Ig (λhc=>absurd hc (by decide +kernel)) (λ_=>?_)
     symm
     refine Ig (λhc=>absurd hc (by decide +kernel)) (λ_=>?_)
     symm
     refine Ig (λhc=>absurd hc (by decide +kernel)) (λ_=>?_)
     symm
     refine Ig (λhc=>absurd hc (by decide +kernel)) (λ_=>?_)
     symm
     refine K2 h1 (by rfl) ?_
     symm
     exact⟨p,ns,[],0,i,rfl,hK.at,.nil,λe he=>(by cases he),λhno a H' e hE=>⟨a,rfl,by rw[hG];exact⟨C_NoSaying,_,_,x_NoSaying.xc,x_NoSaying.mr,hE,.inr (.inl ⟨rfl,i,rfl,rfl⟩),λu H'' e2 hu=>k1 u H'' (e.trans e2) hu⟩⟩⟩
   have nm:∀ z,al4 ns [x,y] z->Refz H C_NoName z λv o H'=>∃ a,v = .ref a/\xG a H':=λz hz a H' e hE=>⟨a,rfl,by rw[hG];exact⟨C_NoName,_,_,x_NoName.xc,x_NoName.mr,hE,.inl ⟨rfl,z,rfl,rfl⟩,λu H'' e2 hu=>k1 z u H'' hz (e.trans e2) hu⟩⟩;rcases hw with rfl|rfl
   . symm
     refine Ig (λhc=>absurd hc (by decide +kernel)) (λ_=>?_)
     symm
     refine Ig (λhc=>absurd hc (by decide +kernel)) (λ_=>?_)
     symm
     refine Ig (λhc=>absurd hc (by decide +kernel)) (λ_=>?_)
     symm
     refine Ig (λhc=>absurd hc (by decide +kernel)) (λ_=>?_)
     symm
     refine Ig (λhc=>absurd hc (by decide +kernel)) (λ_=>?_)
     symm
     refine Le ?_
     symm
     refine K2 h1 (by rfl) ?_
     symm
     refine⟨p,ns,[],0,x,y,rfl,hK.at,nm,λhx hy u H' e hL=>?_⟩
     symm
     have hk:=k2 hx hy H' e;rw[A0J (λq=>absurd q.1 (by decide +kernel))] at hk;rcases hL with ⟨rfl,_⟩|⟨js,os,hxy,_,_,hT⟩
     . exact hk
     exact absurd (aI9 hT) hxy
   symm
   refine Ig (λhc=>absurd hc (by decide +kernel)) (λ_=>?_)
   symm
   refine Ig (λhc=>absurd hc (by decide +kernel)) (λ_=>?_)
   symm
   refine Ig (λhc=>absurd hc (by decide +kernel)) (λ_=>?_)
   symm
   refine Ig (λhc=>absurd hc (by decide +kernel)) (λ_=>?_)
   symm
   refine Ig (λhc=>absurd hc (by decide +kernel)) (λ_=>?_)
   symm
   refine Le ?_
   symm
   refine Ig (λhc=>absurd hc (by decide +kernel)) (λ_=>?_)
   symm
   refine K2 h1 (by rfl) ?_
   symm
   refine⟨p,ns,[],0,x,y,rfl,hK.at,nm,λhx hy H' e=>?_⟩
   symm
   have hk:=k2 hx hy H' e
   have ek:knV (([]:List (Nat×(Str×Str))).map (·.2)) x y=(if("knows":Str)=("knows":Str)/\x=y then V.bl false else V.non):=by
    unfold knV;rw[A4Q,Hs,Hs]
    by_cases q:x=y<;>simp[q]
   rw[ek];exact hk
 rw[hG] at hg;obtain⟨C,fs,D,xc,xm,hE,hR,kk⟩:=hg
 obtain⟨y0,y1,y2,y3,y4,y5,rfl⟩:∃ y0 y1 y2 y3 y4 y5,σ'=[y0,y1,y2,y3,y4,y5]:=by
  match σ',hl with
  | [y0,y1,y2,y3,y4,y5],_=>exact⟨y0,y1,y2,y3,y4,y5,rfl⟩
 obtain⟨od,ha⟩:∃ od,H' a=some (exG false a C od):=by
  rcases hE with ⟨_,q⟩|⟨dx',_,q,_⟩
  . exact⟨_,q⟩
  exact⟨_,q⟩
 refine⟨⟨C,od,ha,xc,ak3 xm⟩,?_⟩
 symm
 refine⟨a,C,fs,D,rfl,hE,hR,λu H2 e2 hu2=>?_⟩
 symm
 exact kk u H2 e2 hu2
local macro_rules | `(tactic| walk_at "rq1") => L2.mAlts "i_nxS i_tMk1"
def Ii (K:W.Frag):Sp:=λvs H Q _=>∃ v,vs=[v]/\BadK K H v/\∀ u H',Same H H'->Is K H' (.tuple [.str "tale",.int (-1)]) u->Q u H'
theorem aw3 {K:W.Frag} {C B:Addr} (c:XC K C) (hm:Fv K C B=true):W.kitOne K (.ref C) (.ref C)=some true:=by rw[Uh c hm c,A2M,A4U]
theorem Vh {K:W.Frag}{C B:Addr}(c:XC K C)(hm:Fv K C B=true):∀ cs:List Addr,(∀ D∈cs,XC K D/\C≠D/\D≠B)->W.kitAny K (.ref C) (cs.map Value.ref)=some false
 | [],_=>rfl
 |D :: cs,h=>by obtain⟨d,h1,h2⟩:=h D (by simp);rw[A0H];unfold W.kitAny;rw[Uh c hm d,A0Y.mpr h1,A0Y.mpr h2];exact Vh c hm cs λE hE=>h E (by simp[hE])
theorem aA9 {H:Hp}{a C:Addr}{f:Str×V}{fs:List (Str×V)}(h:ExB false H a C (f :: fs)):∃ dx,H a=some (exG false a C (some dx)):=by
 rcases h with ⟨e,_⟩|⟨dx,_,h1,_⟩
 . cases e
 exact⟨dx,h1⟩
theorem len4 {σ:L2.St}(h:σ.length=4):∃ a b c d,σ=[a,b,c,d]:=by
 match σ,h with
 | [a,b,c,d],_=>exact⟨a,b,c,d,rfl⟩
theorem R3 {f:Addr}{fd:FuncData}(F:Fun K "_law_begun" "_law_begun" Ec f fd)(T:Gg mg){C_Keeper:Addr}(k_Keeper:Av K C_Keeper){C_HalfError:Addr}{C_NoHalf:Addr}{C_NoText:Addr}{C_NoName:Addr}{C_TooMany:Addr}{C_NoCover:Addr}{C_NoPlace:Addr}{C_NoOrder:Addr}{C_NoJoin:Addr}{C_Clash:Addr}{C_NoPaper:Addr}{C_NoPlan:Addr}{C_NoBound:Addr}{C_NoSaying:Addr}{C_NoMore:Addr}(x_HalfError:Ap K mg C_HalfError C_HalfError)(x_NoHalf:Hg K mg C_NoHalf C_HalfError)(x_NoText:Lh K mg C_NoText C_HalfError)(x_NoName:Bv K mg C_NoName C_HalfError)(x_TooMany:K7 K mg C_TooMany C_HalfError)(x_NoCover:Jz K mg C_NoCover C_HalfError)(x_NoPlace:Kb K mg C_NoPlace C_HalfError)(x_NoOrder:Ke K mg C_NoOrder C_HalfError)(x_NoJoin:Lg K mg C_NoJoin C_HalfError)(x_Clash:Np K mg C_Clash C_HalfError)(x_NoPaper:Jw K mg C_NoPaper C_HalfError)(x_NoPlan:Lc K mg C_NoPlan C_HalfError)(x_NoBound:Kg K mg C_NoBound C_HalfError)(x_NoSaying:Ef K mg C_NoSaying C_HalfError)(x_NoMore:G0 K mg C_NoMore C_HalfError)(ndX:([C_HalfError,C_Clash,C_NoBound,C_NoCover,C_NoHalf,C_NoJoin,C_NoMore,C_NoName,C_NoOrder,C_NoPaper,C_NoPlace,C_NoPlan,C_NoSaying,C_NoText,C_TooMany]:List Addr).Nodup)(Ht:aP5 P w K mg base 4 C_Keeper "Keeper" ["self","names"] (G3 C_Keeper C_NoHalf K)):FnOk P w K mg base CX0 6 f fd ["_law_thing"] (Ii K):=by
 refine F.ok Ca (λvs H Q E h=>?_) (λcdv A outer s H vs Q E hr h=>?_)
 . obtain⟨v,rfl,_⟩:=h;rfl
 obtain⟨v,rfl,hB,k⟩:=h;have hu:=Cg hr;have hq:=Cf hr
 have all:∀ cs:List Addr,(∀ D∈cs,XC K D/\D∈[C_Clash,C_NoBound,C_NoCover,C_NoJoin,C_NoMore,C_NoName,C_NoOrder,C_NoPaper,C_NoPlace,C_NoPlan,C_NoSaying,C_NoText,C_TooMany])->W.kitAny K (.ref C_NoHalf) (cs.map Value.ref)=some false:=λcs h=>Vh x_NoHalf.xc x_NoHalf.mr cs λD hD=>by
  obtain⟨h1,h2⟩:=h D hD;refine⟨h1,λe=>?_,λe=>?_⟩
  . subst e;simp at ndX h2;rcases h2 with e|e|e|e|e|e|e|e|e|e|e|e|e<;>simp[e] at ndX
  subst e;simp at ndX h2;rcases h2 with e|e|e|e|e|e|e|e|e|e|e|e|e<;>simp[e] at ndX
 clear ndX;obtain⟨xG,hG⟩:∃ G:Addr->Hp->Prop,G=λa H'=>Same H H'/\ExB false H' a C_NoHalf [("word",.str "tale"),("number",.int (-1))]:=⟨_,rfl⟩
 with_reducible refine⟨_,(A3 (Ad (i:=1) Ca.nd ⋯ (by eq_refl) G4)
  (A3 (ah0 (i:=2) xG Ca.nd ⋯ ⋯ ⋯ x_HalfError.gl x_HalfError.xc ⋯ ⋯ ⋯ (λ_ _ hps=>(A5 (Ad (i:=1) Ca.nd ⋯ (by eq_refl) (aH6 Ht (hr.mono ∅) ⋯ hps (A1 (pv 0) A2)))))
  (λ_ _=>(A3 (Ad (i:=3) Ca.nd ⋯ (by eq_refl) (Ae (Cr (K:=K)) ⋯ T.b_isinstance PyProof.Rows.Boot.«isinstance» (A1 (pv 2) (A1 (B0 (A1 (Dt (v:=.ref C_Clash) ⋯ ⟨_,x_Clash.gl,⋯⟩) (A1 (Dt (v:=.ref C_NoBound) ⋯ ⟨_,x_NoBound.gl,⋯⟩) (A1 (Dt (v:=.ref C_NoCover) ⋯ ⟨_,x_NoCover.gl,⋯⟩) (A1 (Dt (v:=.ref C_NoJoin) ⋯ ⟨_,x_NoJoin.gl,⋯⟩) (A1 (Dt (v:=.ref C_NoMore) ⋯ ⟨_,x_NoMore.gl,⋯⟩) (A1 (Dt (v:=.ref C_NoName) ⋯ ⟨_,x_NoName.gl,⋯⟩) (A1 (Dt (v:=.ref C_NoOrder) ⋯ ⟨_,x_NoOrder.gl,⋯⟩) (A1 (Dt (v:=.ref C_NoPaper) ⋯ ⟨_,x_NoPaper.gl,⋯⟩) (A1 (Dt (v:=.ref C_NoPlace) ⋯ ⟨_,x_NoPlace.gl,⋯⟩) (A1 (Dt (v:=.ref C_NoPlan) ⋯ ⟨_,x_NoPlan.gl,⋯⟩) A2))))))))))) A2))))
  (A3 (Ad (i:=1) Ca.nd ⋯ (by eq_refl) Ab)
  (A5 (Cq (PW.pt (Ph (Di (Ae (Cr (K:=K)) ⋯ T.b_isinstance PyProof.Rows.Boot.«isinstance» (A1 (pv 2) (A1 (Dt (v:=.ref C_NoHalf) ⋯ ⟨_,x_NoHalf.gl,⋯⟩) A2)))) (Ph (Hf (Di (pv 3))) (R0 (Hf (Di (Ae (Cr (K:=K)) ⋯ T.b_isinstance PyProof.Rows.Boot.«isinstance» (A1 (pv 2) (A1 (B0 (A1 (Dt (v:=.ref C_NoSaying) ⋯ ⟨_,x_NoSaying.gl,⋯⟩) (A1 (Dt (v:=.ref C_NoText) ⋯ ⟨_,x_NoText.gl,⋯⟩) (A1 (Dt (v:=.ref C_TooMany) ⋯ ⟨_,x_TooMany.gl,⋯⟩) A2)))) A2))))))))) (A5 (Ad (i:=1) Ca.nd ⋯ (by eq_refl) (Fh (Di (Ae (Cr (K:=K)) ⋯ T.b_isinstance PyProof.Rows.Boot.«isinstance» (A1 (pv 2) (A1 (Hm (v:=.ty "ValueError") ⋯ T.b_ValueError PyProof.Rows.Boot.«ValueError» ⋯) A2)))) (B0 (A1 (Jl (K:=K) (pv 2) ⋯) (A1 (Jl (K:=K) (pv 2) ⋯) A2))) Ab))) Ax))))))
  (A5 (At (pv 1))))),?_⟩
 symm
 refine⟨?_,λa H' σ' hl hg=>?_⟩
 . symm
   refine aO6 λx dx H2 hx e2 h2=>?_;exact⟨x,v,rfl,hB.same e2,λa H1 e1 hE=>⟨a,rfl,by rw[hG];exact⟨e2.trans e1,hE⟩⟩⟩
 rw[hG] at hg;obtain⟨e1,hE⟩:=hg;obtain⟨y0,y1,y2,y3,rfl⟩:=len4 hl;obtain⟨dx,ha⟩:=aA9 hE;refine⟨⟨C_NoHalf,some dx,ha,x_NoHalf.xc,ak3 x_NoHalf.mr⟩,?_⟩
 symm
 refine B7 (A8 (by simp)) λt1 H1 ht1 e2 h1=>?_;have hE1:=hE.same e2
 symm
 refine T2 (cs:=[C_Clash,C_NoBound,C_NoCover,C_NoJoin,C_NoMore,C_NoName,C_NoOrder,C_NoPaper,C_NoPlace,C_NoPlan]) hE1 x_NoHalf.xc h1 (all _ λD hD=>?_) ?_
 . simp only[List.mem_cons,List.not_mem_nil,or_false] at hD;refine⟨?_,?_⟩
   . rcases hD with rfl | rfl | rfl | rfl | rfl | rfl | rfl | rfl | rfl | rfl<;>first | exact x_Clash.xc | exact x_NoBound.xc | exact x_NoCover.xc | exact x_NoJoin.xc | exact x_NoMore.xc | exact x_NoName.xc | exact x_NoOrder.xc | exact x_NoPaper.xc | exact x_NoPlace.xc | exact x_NoPlan.xc
   rcases hD with rfl|rfl|rfl|rfl|rfl|rfl|rfl|rfl|rfl|rfl<;>simp
 symm
 refine Jm hE1 x_NoHalf.xc (aw3 x_NoHalf.xc x_NoHalf.mr) ?_
 symm
 refine B7 (A8 (by simp)) λt2 H2 ht2 e3 h2=>?_;have hE2:=hE1.same e3
 symm
 refine T2 (cs:=[C_NoSaying,C_NoText,C_TooMany]) hE2 x_NoHalf.xc h2 (all _ λD hD=>?_) ?_
 . simp only[List.mem_cons,List.not_mem_nil,or_false] at hD;refine⟨?_,?_⟩
   . rcases hD with rfl | rfl | rfl<;>first | exact x_NoSaying.xc | exact x_NoText.xc | exact x_TooMany.xc
   rcases hD with rfl|rfl|rfl<;>simp
 symm
 refine Le ?_
 symm
 refine Vo hE2 x_NoHalf.xc (R5 x_NoHalf.mr) ?_
 symm
 refine Vb hE2 x_NoHalf.xc x_NoHalf.n_word (show _=some (V.str "tale") from rfl) ?_
 symm
 refine Vb hE2 x_NoHalf.xc x_NoHalf.n_number (show _=some (V.int (-1)) from rfl) ?_
 symm
 refine B7 (A8 (by simp)) λt3 H3 ht3 e4 h3=>?_
 symm
 exact k _ H3 (e1.trans ((e2.trans e3).trans e4)) (Is.of_tup (SqT.of h3) (.cons Dp (.one Gv)))
theorem Xx {ns:List Str}(hn:ns.Nodup)(h10:ns.length<=10):HalfW ns []:=⟨hn,λp hp=>(by cases hp),λx g=>(by have:=wayB_iff.mpr g;rw[Hs] at this;cases this),by omega,by simp⟩
theorem aC9 {ns:List Str}{p:Str×Str}(hn:ns.Nodup)(h10:ns.length<=10)(hp:p∈unP ns []):qA ns [] p=fac ns.length / 2/\qB ns [] p=fac ns.length / 2:=by
 obtain⟨m1,m2,_⟩:=Uj hp;have hne:=aj9 hn hp;have h1:=at5 (Xx hn h10) m1 m2 hne;rw[Nw (b:=Be []) Hs ns.length ns rfl hn] at h1
 have h2:cnt (Be [(p.2,p.1)]) ns=cnt (Be [(p.1,p.2)]) ns:=by have:Be [(p.2,p.1)]=Ta (Be [(p.1,p.2)]):=at9 [(p.1,p.2)];rw[this,af1 hn]
 unfold qA qB;simp only[List.nil_append] at h1 h2 ⊢;omega
theorem ac8 (x y:Str):unB [] x y=true:=by unfold unB;rw[Hs,Hs];rfl
theorem Vf (ns:List Str)(i:Nat):unR ns [] i=(ns.drop (i+1)).map λy=>(ns.getD i "",y):=by unfold unR;rw[A55.mpr λy _=>ac8 _ y]
theorem at2 (ns:List Str)(ps:List (Str×Str))(k:Nat):unK ns ps (k+1)=unK ns ps k++unR ns ps k:=by unfold unK;rw[List.range_succ,List.flatMap_append];simp
def fbT (h:Nat)(p:Str×Str):Str:=(qsD p h h).shown
theorem aE0 {p:Str×Str}{m n:Nat}(h1:Nt p.1=true)(h2:Nt p.2=true)(hm:m<=3628800)(hn:n<=3628800):Dk 2 400 2 (qsD p m n):=by have d1:Dk 1 18 2 (prD p):=aq1 (p:=0) h1 h2 (A07 _);have i1:∀ k:Nat,k<=3628800->Dk 0 150 2 (.int ((k:Nat):Int)):=λk hk=>Z2 nofun;have d2:Dk 1 302 2 (.tuple [.int ((m:Nat):Int),.int ((n:Nat):Int)]):=Kx (Els.app (Els.one (i1 m hm) ∅) (Els.one (i1 n hn) ∅) (by simp) (Nat.le_refl _));exact(Kx (Els.app (Els.one d1 ∅) (Els.one d2 ∅) (by simp) (Nat.le_refl _))).le (Nat.le_refl _) nofun (Nat.le_refl _)
theorem aP6 {K:W.Frag}{H:Hp}{h:Nat}{p:Str×Str}:Is K H (.str (fbT h p)) (.str (qsD p h h).shown):=Dp
def Ej (P C:Addr)(K:W.Frag):Sp:=λvs H Q _=>∃ p pl ul ns l,vs=[.ref p,.ref l]/\KpF K C H p pl ul ns/\H l=some (.lst (ns.map V.str))/\LmT P H/\∀ H',ExtBut P H H'->LmT P H'->Q (.bl true) H'
theorem aR9 {n:Nat}(h:n<=5):fac n<=120:=by rcases(show n=0\/n=1\/n=2\/n=3\/n=4\/n=5 by omega) with e|e|e|e|e|e<;>rw[e]<;>decide
theorem Kn {f:Addr}{fd:FuncData}(F:Fun K "_law_first_best" "_law_first_best" Bp f fd)(T:Gg mg){P_best:Addr}{C_Keeper:Addr}(k_Keeper:Av K C_Keeper)(Ij:Mtd P w K mg base 17 C_Keeper "best" ["self"] (Ha P_best C_Keeper K)):FnOk P w K mg base CX0 18 f fd ["_law_keeper","_law_names_here"] (Ej P_best C_Keeper K):=by
 refine F.ok Az (λvs H Q E h=>?_) (λcdv A outer s H vs Q E hr h=>?_)
 . obtain⟨p,pl,ul,ns,l,rfl,_⟩:=h;rfl
 obtain⟨p,pl,ul,ns,l,rfl,hK,hl,hT,k⟩:=h;have hu:=Cg hr;have hq:=Cf hr
 with_reducible refine⟨_,(A3 (Cq (An at6 (Ae (By (K:=K)) ⋯ T.b_len PyProof.Rows.Boot.«len» (A1 (pv 1) A2)) A6 (Ay _)) (A5 (At Ku)) Ax)
  (A3 (Ad (i:=2) Az.nd ⋯ (by with_unfolding_all exact A3W rfl) A6)
  (A3 (Eo A17 ⋯ (Xy ⋯ T.b_range (A1 A6 (A1 (Ar (Am (K:=K)) (Ae (By (K:=K)) ⋯ T.b_len PyProof.Rows.Boot.«len» (A1 (pv 1) A2)) A6) A2))) (Al (i:=3) Az.nd ⋯ (by with_unfolding_all exact A3W rfl))
  (A5 (Ad (i:=2) Az.nd ⋯ (by with_unfolding_all exact A3W rfl) (Ar Fm (pv 2) (pv 3)))))
  (A3 (Ad (i:=4) Az.nd ⋯ (by eq_refl) (Bf A2))
  (A3 (Eo A17 ⋯ (Hh ⋯ T.b_range (A1 (Ae (By (K:=K)) ⋯ T.b_len PyProof.Rows.Boot.«len» (A1 (pv 1) A2)) A2)) (Al (i:=3) Az.nd ⋯ (by with_unfolding_all exact A3W rfl))
  (A5 (Bs (Eh (K:=K) A0I PySem.F.slot_list_extend PySem.F.type_list_extend (mm T4) (pv 4) (A1 (Dm ["_law_far"] ["_law_names_here","_law_k","_law_many"] [1,3,2] ⋯ ⋯ ⋯ (B3 (K:=K) hu (Ek (a65 (K:=K)) (pv 1) (Dv (Ar (Am (K:=K)) (pv 3) A6)) K3)) (λ_ _ _ _=>(Al (i:=0) (by with_unfolding_all (show(["_law_far","_law_names_here","_law_k","_law_many"]:List Str).Nodup;decide +kernel)) ⋯ (by eq_refl))) (Cd ∅) (λ_ _ _ _=>Dx) (λ_ _ _ _=>(Ae (Dr (K:=K) hq) ⋯ T.b_repr PyProof.Rows.Boot.«repr» (A1 (B0 (A1 (B0 (A1 (Ak (A7 (K:=K) hu) (pv 1) (pv 2) (by ac_rfl)) (A1 (pv 0) A2))) (A1 (B0 (A1 (Ar L7 (pv 3) A6) (A1 (Ar L7 (pv 3) A6) A2))) A2))) A2)))) A2)))))
  (A3 (Ad (i:=5) Az.nd ⋯ (by eq_refl) (Jr (C:=C_Keeper) (pv 0) k_Keeper.cl Ij (hr.mono ∅)))
  (A5 (At (Fh (An (Uo (K:=K) hq) (pv 4) (Bf A2) (Ay _)) (Cu ai4 (pv 5) G4 (Ay _)) (Cu (Pq (K:=K) hq) (Ae (Dr (K:=K) hq) ⋯ T.b_repr PyProof.Rows.Boot.«repr» (A1 (pv 5) A2)) (pv 4) ⋯)))))))))),?_⟩
 symm
 rw[A02];refine Ig (λhc=>?_) (λhc=>?_)
 . symm
   exact k H (λ_ _ _ z=>z) hT
 have h5:ns.length<=5:=by omega
 symm
 rw[A02]
 symm
 refine aA6 nofun ?_
 refine Iw Eu (λi σ H'=>∃ x3,σ=[some (.ref p),some (.ref l),some (.int ((fac (i+1):Nat):Int)),x3,none,none]/\H'=H)
  ⟨_,rfl,rfl⟩ (λ_ _ _ _=>trivial) (λi x σ' H1 hx hi hP=>?_) (fun σ' H1 hP=>?_)
 . obtain⟨x3,rfl,rfl⟩:=hP;obtain⟨rfl,hin⟩:=Lu hx;have hb:fac (i+1)<=120:=aR9 nofun
   symm
   refine⟨some (.int (2+(i:Int))),?_,rfl⟩
   have e:((fac (i+1):Nat):Int)*(2+(i:Int))=((fac (i+1+1):Nat):Int):=by
    have:fac (i+1+1)=fac (i+1)*(i+1+1):=rfl;rw[this]
    push_cast
    congr 1;omega
   rw[e];rfl
 obtain⟨x3,rfl,rfl⟩:=hP
 have hfe:fac ((((ns.length:Int)+1-2).toNat)+1)=fac ns.length:=by
  rcases A5H ns.length with z|z
  . rw[z];rfl
  congr 1;omega
 rw[A02,A1R,hfe];have hf:=aR9 h5;have hqh:∀ pr∈unP ns [],qA ns [] pr=fac ns.length / 2/\qB ns [] pr=fac ns.length / 2:=λpr hpr=>aC9 hK.nd.1 hK.few hpr;generalize fac ns.length=F0 at hf hqh ⊢;have hdv:((F0:Nat):Int) / 2=((F0 / 2:Nat):Int):=by omega
 obtain⟨h0,hh0⟩:∃ h0,h0=F0 / 2:=⟨_,rfl⟩;rw[<- hh0] at hqh hdv;have h00:h0<=3628800:=by omega
 symm
 refine Bq (A8 (by simp)) λq H2 hq2 e2 h2=>?_
 symm
 rw[A02];refine Pz nofun ?_
 refine Iw Eu (λi σ H'=>∃ x3,σ=[some (.ref p),some (.ref l),some (.int ((F0:Nat):Int)),x3,some (.ref q),none]/\Same H1 H'/\H' q=some (.lst ((unK ns [] i).map λpr=>V.str (fbT (h0) pr))))
  ⟨_,rfl,e2,h2⟩ (λ_ _ _ _=>trivial) (λi x σ' H3 hx hi hP=>?_) (fun σ' H3 hP=>?_)
 . obtain⟨x3,rfl,e3,h3⟩:=hP;obtain⟨rfl,hin⟩:=Lu hx;have hi2:i<ns.length:=by simpa using hi
   have hgi:ns[i]? = some (ns.getD i ""):=Fw hi2;have hil:=A04 hgi
   have hkl:(unK ns [] i).length<=1000:=by unfold unK;rw[A56];refine A0L (Jj (c:=10) λj _=>?_) (by rw[A1R];omega);rw[Vf,A02,A1M];omega
   symm
   refine Uc (SqL.of (e3 _ _ hl)) λl4 H4 hl4 e4 h4=>?_;rw[Rj nofun (by rw[A02];omega),show(0+(i:Int)+1).toNat=i+1 by omega,<- List.map_drop] at h4
   symm
   refine Rc (ns:=ns.drop (i+1)) ⟨l4,rfl,.inl (SqL.of h4)⟩ (λ_=>true) (λo=>PyData.str (fbT (h0) (ns.getD i "",o))) (λ_=>rfl) (by rw[A1M];omega) (λjj o H5 R R' ho e5 hR hR'=>?_) (λlc yc H5 hlc e5 h5' hL5=>?_)
   . have hom:=A2Y (A04 ho)
     symm
     refine Lo (e5 _ _ (e4 _ _ (e3 _ _ hl))) (by rw[Int.zero_add];exact Dl (show(ns.map V.str)[i]? = some (.str (ns.getD i "")) by rw[A08,hgi];rfl)) ?_
     symm
     refine B7 (A8 (by simp)) λt6 H6 ht6 e6 h6=>?_
     symm
     refine B7 (A8 (by simp)) λt7 H7 ht7 e7 h7=>?_
     symm
     refine B7 (A8 (by simp)) λt8 H8 ht8 e8 h8=>?_
     symm
     have hIq:Is K H8 (qsD (ns.getD i "",o) (h0) (h0)) (.ref t8):=by refine Is.of_tup (SqT.of h8) (.cons (Is.of_tup (SqT.of (e8 _ _ (e7 _ _ h6))) (.cons Dp (.one Dp))) (.one (Is.of_tup (SqT.of (e8 _ _ h7)) ?_)));rw[<- hdv];exact .cons Gv (.one Gv)
     obtain⟨t1,t2,t3⟩:=(aE0 (p:=(ns.getD i "",o)) (m:=h0) (n:=h0) (hK.nd.2 _ hil) (hK.nd.2 _ hom) h00 h00).told nofun nofun;refine Kf hIq t1 t2 t3 ?_;exact hR rfl _ _ ((e6.trans e7).trans e8) aP6
   rw[Dq] at hL5;have hys:=IsL.str_eq (ns:=(ns.drop (i+1)).map λo=>fbT (h0) (ns.getD i "",o)) (by rw[A1A];exact hL5);subst hys
   symm
   refine ak7 (e5 _ _ (e4 _ _ h3)) h5' (by simp only[List.length_map,List.length_drop];omega) λH6 e6 h6=>?_
   symm
   refine⟨_,rfl,?_,?_⟩
   . exact((e3.trans e4).trans e5).off hq2 e6
   rw[h6,at2,A16,Vf,A1A,A1A];rfl
 obtain⟨x3,rfl,e3,h3⟩:=hP;rw[A02,A1R,show(Int.toNat (ns.length:Int))=ns.length by omega] at h3;replace h3:H3 q=some (.lst ((unP ns []).map λpr=>V.str (fbT (h0) pr))):=h3;obtain⟨dx,nv,w,g1,_⟩:=(hK.same e3).ex;have hT3:=hT.same e3
 symm
 refine K2 g1 (by rfl) ?_
 symm
 refine⟨p,pl,ul,ns,rfl,hK.same e3,hT3,λu H4 e4 hT4 hB=>?_⟩;obtain⟨tps,htb⟩:=Kd hT3;have hqP:q≠_:=ne_of h3 htb (by intro z;cases z);have h4:=e4 _ _ hqP h3;have kk:∀ {H'},Same H4 H'->Q (.bl true) H':=fun {H'} e=>k H' (λb o hb z=>e _ _ (e4 _ _ hb (e3 _ _ z))) (hT4.same e)
 symm
 refine Le ?_
 symm
 refine Bq (A8 (by simp)) λq5 H5 hq5 e5 h5'=>?_;refine Zy (SqL.of (e5 _ _ h4)) (SqL.of h5') ?_;rcases hB with ⟨rfl,hE⟩|⟨pr,hpr,hIp,_⟩
 . rw[hE,A4Q,List.isEmpty_nil]
   symm
   exact kk e5
 have hne:((unP ns []).map λpr=>V.str (fbT (h0) pr)).isEmpty=false:=by
  cases hU:unP ns [] with
  |nil=>rw[hU] at hpr;cases hpr
  |cons a b=>rfl
 rw[hne];obtain⟨m1,m2,_⟩:=Uj hpr;obtain⟨qa,qb⟩:=hqh pr hpr;rw[qa,qb] at hIp;obtain⟨t1,t2,t3⟩:=(aE0 (p:=pr) (m:=h0) (n:=h0) (hK.nd.2 _ m1) (hK.nd.2 _ m2) h00 h00).told nofun nofun
 symm
 refine Kf (Is.mono e5 _ _ hIp) t1 t2 t3 ?_
 symm
 refine aC7 (ns:=(unP ns []).map (fbT (h0))) (SqL.of (by rw[A1A];exact e5 _ _ h4)) ?_;rw[A0Z (show(qsD pr h0 h0).shown∈(unP ns []).map (fbT h0) from A0E.mpr ⟨pr,hpr,rfl⟩)];exact kk e5
def Hu (P C:Addr)(K:W.Frag):Sp:=λvs H Q _=>∃ p pl ul ns l way,vs=[.ref p,.ref l,.int way]/\KpF K C H p pl ul ns/\H l=some (.lst (ns.map V.str))/\(way=0\/way=1)/\LmT P H/\∀ H',ExtBut P H H'->LmT P H'->Q (.bl true) H'
theorem KpF.tbl {K:W.Frag}{C P:Addr}{H H':Hp}{p pl ul:Addr}{ns:List Str}(h:KpF K C H p pl ul ns)(hT:LmT P H)(e:ExtBut P H H'):KpF K C H' p pl ul ns:=by obtain⟨tps,htb⟩:=Kd hT;exact h.ext e (Zp e htb) htb (λ_ _ _ z=>by cases z) (λ_ z=>by cases z)
theorem aB7 {n:Nat}(h:n<=10):fac n<=3628800:=by rcases(show n=0\/n=1\/n=2\/n=3\/n=4\/n=5\/n=6\/n=7\/n=8\/n=9\/n=10 by omega) with e|e|e|e|e|e|e|e|e|e|e<;>rw[e]<;>decide
theorem aN3 {z:Str}(h:al4 [] ["a","a"] z):z = "a":=by
 obtain⟨as,bs,e,ha,_⟩:=h
 match as,e with
 | [],e=>injection e with e1 _;exact e1.symm
 |b :: r,e=>exact absurd (ha b (by simp)) (by simp)
theorem a76 (i:Int):(PyData.int i).shown=Str.ofString (toString i):=by first | rfl | simp only[PyData.shown]
theorem Ra {P b:Addr}{H H':Hp}{xs:List V}(hT:LmT P H)(e:ExtBut P H H')(h:H b=some (.lst xs)):H' b=some (.lst xs):=by obtain⟨ps,ht⟩:=Kd hT;exact e _ _ (ne_of h ht (by intro z;cases z)) h
def Xr (ns:List Str)(x y:Str):PyData:=if ns=[] then .tuple [.str "name",.str "a"] else if x=y then .bool false else .none
def aB4 (ns:List Str)(x y:Str):Prop:=(ns=[]/\x = "a" /\ y = "a")\/(ns≠[]/\x∈ns/\y∈ns)
theorem Yr (ns:List Str)(x y:Str):(Xr ns x y).showable=true/\(Xr ns x y).shown.length<=sizeLine/\(Xr ns x y).depth<=100/\SeqAt.shaped (Xr ns x y)=true/\frz (Xr ns x y)=true:=by
 unfold Xr
 split
 . exact⟨by decide +kernel,by decide +kernel,by decide +kernel,by decide +kernel,by decide +kernel⟩
 split
 . exact⟨by decide +kernel,by decide +kernel,by decide +kernel,by decide +kernel,by decide +kernel⟩
 exact⟨by decide +kernel,by decide +kernel,by decide +kernel,by decide +kernel,by decide +kernel⟩
theorem Wj {K:W.Frag}{C:Addr}{H:Hp}{p pl ul:Addr}{ns:List Str}{x y w:Str}{Q:VK}{E:XK}(hK:KpF K C H p pl ul ns)(hw:w = "lead" \/ w = "knows")(hx:aB4 ns x y)(k:∀ u H',Same H H'->Is K H' (if ns=[] then .tuple [.str "name",.str "a"] else if w = "knows" /\ x=y then .bool false else .none) u->Q u H'):Em C K [.ref p,.str w,.str x,.str y] H Q E:=by
 refine⟨p,pl,ul,ns,w,.str x,.str y,rfl,hK,.inr (.inr ⟨hw,x,y,rfl,rfl,λz u H' hz e hu=>?_,λh1 h2 H' e=>?_⟩)⟩
 . rcases hx with ⟨rfl,rfl,rfl⟩|⟨_,h1,h2⟩
   . rw[aN3 hz] at hu;exact k u H' e (by rw[A0R rfl];exact hu)
   exact(aG2 hz h1 h2).elim
 rcases hx with ⟨rfl,rfl,rfl⟩|⟨hne,_,_⟩
 . cases h1
 refine k _ H' e ?_;rw[A0J hne]
 by_cases q:w = "knows" /\ x=y
 . rw[A0R q,A0R q];exact af6
 rw[A0J q,A0J q];exact Vi
theorem Qt {f:Addr}{fd:FuncData}(F:Fun K "_law_fresh" "_law_fresh" Ed f fd)(T:Gg mg){P_best:Addr}{C_Keeper:Addr}(k_Keeper:Av K C_Keeper)(Cn:Fnd P w K mg base 5 "_law_told_by" ["_law_keeper","_law_word","_law_one","_law_other"] (Em C_Keeper K))(Ff:Fnd P w K mg base 18 "_law_first_best" ["_law_keeper","_law_names_here"] (Ej P_best C_Keeper K))(Fp:Mtd P w K mg base 1 C_Keeper "numbers" ["self"] (Ey C_Keeper K))(Af:Mtd P w K mg base 1 C_Keeper "half" ["self"] (Bk C_Keeper K))(Hw:Mtd P w K mg base 15 C_Keeper "many" ["self"] (Fg C_Keeper K)):FnOk P w K mg base CX0 19 f fd ["_law_keeper","_law_names_here","_law_way"] (Hu P_best C_Keeper K):=by
 refine F.ok Bh (λvs H Q E h=>?_) (λcdv A outer s H vs Q E hr h=>?_)
 . obtain⟨p,pl,ul,ns,l,way,rfl,_⟩:=h;rfl
 obtain⟨p,pl,ul,ns,l,way,rfl,hK,hl,hway,hT,k⟩:=h;have hu:=Cg hr;have hq:=Cf hr;have h10:=hK.few;have hem:(ns.map V.str).isEmpty=ns.isEmpty:=by cases ns<;>rfl
 obtain⟨x,y,hxy,hat⟩:∃ x y:Str,aB4 ns x y/\(ns≠[]->atI (ns.map V.str) 0=some (.str x)/\atI (ns.map V.str) (-1)=some (.str y)):=by
  cases ns with
  |nil=>exact⟨"a","a",.inl ⟨rfl,rfl,rfl⟩,λz=>absurd rfl z⟩
  |cons a r=>
    refine⟨a,(a :: r).getD r.length "",.inr ⟨by simp,by simp,List.mem_of_getElem? (Fw (by simp))⟩,λ_=>⟨Dl (j:=0) rfl,?_⟩⟩;unfold atI
    have e:ixN ((a :: r).map V.str).length (-1)=some r.length:=by unfold ixN;rw[A02,A0N,A0J nofun,A0R nofun];congr 1;omega
    rw[e,Option.bind_some,List.getElem?_map,Fw (by simp)];rfl
 obtain⟨t1,t2,t3,t4,t5⟩:=Yr ns x y;have hf10:=aB7 h10
 with_reducible refine⟨_,(A3 (Ad (i:=3) Bh.nd ⋯ (by eq_refl) (Fh (An (a67 (K:=K) hq) (pv 1) (Bf A2) (Ay _)) (Ak (A7 (K:=K) hu) (pv 1) A6 (by ac_rfl)) Ab))
  (A3 (Ad (i:=4) Bh.nd ⋯ (by eq_refl) (Fh (An (a67 (K:=K) hq) (pv 1) (Bf A2) (Ay _)) (Ak (A7 (K:=K) hu) (pv 1) (af5 Vx A6) (by ac_rfl)) Ab))
  (A3 (Ad (i:=5) Bh.nd ⋯ (by eq_refl) A6)
  (A3 (Eo A17 ⋯ (Hh ⋯ T.b_range (A1 (Ae (By (K:=K)) ⋯ T.b_len PyProof.Rows.Boot.«len» (A1 (pv 1) A2)) A2)) (Al (i:=6) Bh.nd ⋯ (by eq_refl))
  (A5 (Ad (i:=5) Bh.nd ⋯ (by eq_refl) (Ar Fm (pv 5) (Ar (Am (K:=K)) (pv 6) A6)))))
  (A3 (Ad (i:=7) Bh.nd ⋯ (by eq_refl) (Fh (An (Uo (K:=K) hq) (pv 1) (Bf A2) (Ay _)) (B0 (A1 Ab (A1 Ab A2))) (Ak (A7 (K:=K) hu) (Bf (A1 G4 (A1 Ku A2))) (As Sy ⋯ T.b_int PyProof.Rows.Boot.«int» (A1 (Cu (C5 (K:=K) hq) (pv 3) (pv 4) (Ay _)) A2)) (by ac_rfl))))
  (A3 (Ad (i:=8) Bh.nd ⋯ (by eq_refl) (Ak (A7 (K:=K) hu) (Bf (A1 (Bf (A1 Ab (A1 Ab A2))) (A1 (Bf (A1 Ab (A1 Ab A2))) A2))) (pv 2) (by ac_rfl)))
  (A3 (Ls (i:=9) ["_law_word"] ["_law_keeper"] [0] ⋯ ⋯ ⋯ Bh.nd ⋯ ⋯ (B3 (K:=K) hu (pv 8)) (λ_ _ _ _=>(Al (i:=0) (by with_unfolding_all (show(["_law_word","_law_keeper"]:List Str).Nodup;decide +kernel)) ⋯ (by eq_refl))) (Cd ∅) (λ_ _ _ _=>Dx) (λ_ _ _ _=>(Cu (C5 (K:=K) hq) (Ch Cn (hr.mono ∅) ⋯ (A1 (pv 1) (A1 (pv 0) (A1 G4 (A1 G4 A2))))) (B0 (A1 Ab A2)) (Ay _))))
  (A3 (Bs (Eh (K:=K) A0I A0V A0W (mm Bg) (pv 9) (A1 (W8 (Cu (C5 (K:=K) hq) (Jr (C:=C_Keeper) (pv 0) k_Keeper.cl Fp (hr.mono ∅)) (B0 A2) (Ay _)) (Vw (Cu (C5 (K:=K) hq) (Ae (Dr (K:=K) hq) ⋯ T.b_repr PyProof.Rows.Boot.«repr» (A1 (Jr (C:=C_Keeper) (pv 0) k_Keeper.cl Af (hr.mono ∅)) A2)) (Ae (Dr (K:=K) hq) ⋯ T.b_repr PyProof.Rows.Boot.«repr» (A1 (B0 (A1 (As (Bd (K:=K)) ⋯ T.b_tuple PyProof.Rows.Boot.«tuple» (A1 (pv 1) A2)) (A1 (B0 A2) A2))) A2)) (Ay _)))) A2)))
  (A3 (Bs (Eh (K:=K) A0I A0V A0W (mm Bg) (pv 9) (A1 (W8 (Cu (C5 (K:=K) hq) (Ae (Dr (K:=K) hq) ⋯ T.b_repr PyProof.Rows.Boot.«repr» (A1 (Jr (C:=C_Keeper) (pv 0) k_Keeper.cl Hw (hr.mono ∅)) A2)) (As Se ⋯ T.b_str PyProof.Rows.Boot.«str» (A1 (pv 5) A2)) (Ay _)) (Vw (Ch Ff (hr.mono ∅) ⋯ (A1 (pv 0) (A1 (pv 1) A2))))) A2)))
  (A3 (Bs (Eh (K:=K) A0I A0V A0W (mm Bg) (pv 9) (A1 (Cu (C5 (K:=K) hq) (Ae (Dr (K:=K) hq) ⋯ T.b_repr PyProof.Rows.Boot.«repr» (A1 (Ch Cn (hr.mono ∅) ⋯ (A1 (pv 0) (A1 Ab (A1 (pv 3) (A1 (pv 4) A2))))) A2)) (Ae (Dr (K:=K) hq) ⋯ T.b_repr PyProof.Rows.Boot.«repr» (A1 (pv 7) A2)) (Ay _)) A2)))
  (A3 (Bs (Eh (K:=K) A0I A0V A0W (mm Bg) (pv 9) (A1 (Cu (C5 (K:=K) hq) (Ch Cn (hr.mono ∅) ⋯ (A1 (pv 0) (A1 Ab (A1 (pv 3) (A1 (pv 4) A2))))) (Fh (An (Uo (K:=K) hq) (pv 1) (Bf A2) (Ay _)) (pv 7) G4) (Ay _)) A2)))
  (A3 (Bs (Eh (K:=K) A0I A0V A0W (mm Bg) (pv 9) (A1 (Cu (C5 (K:=K) hq) (Ch Cn (hr.mono ∅) ⋯ (A1 (pv 0) (A1 Ab (A1 A6 (A1 G4 A2))))) (B0 (A1 Ab (A1 A6 A2))) (Ay _)) A2)))
  (A5 (At (Cu (Gc (K:=K) hq) Ku (pv 9) ⋯))))))))))))))),?_⟩
 with_reducible refine Tv (fun σ' H'=>σ'=[some (.ref p),some (.ref l),some (.int way),some (.str x),none,none,none,none,none,none]/\Same H H') (λN hN=>?_) (fun σ1 H1 hM=>?_)
 . symm
   refine Le ?_
   symm
   refine Bq (A8 (by simp)) λq H1 hq1 e1 h1=>?_;refine am6 (SqL.of (e1 _ _ hl)) (SqL.of h1) ?_;rw[hem];rcases hxy with ⟨rfl,rfl,rfl⟩|⟨hne,_⟩
   . symm
     exact hN _ _ ⟨rfl,e1⟩
   rw[show ns.isEmpty=false by cases ns with | nil=>exact absurd rfl hne | cons _ _=>rfl]
   symm
   refine Lo (e1 _ _ hl) (hat hne).1 ?_
   symm
   exact hN _ _ ⟨rfl,e1⟩
 obtain⟨rfl,e1⟩:=hM;have hl1:=e1 _ _ hl
 with_reducible refine Tv (fun σ' H'=>σ'=[some (.ref p),some (.ref l),some (.int way),some (.str x),some (.str y),none,none,none,none,none]/\Same H H') (λN hN=>?_) (fun σ2 H2 hM=>?_)
 . symm
   refine Le ?_
   symm
   refine Bq (A8 (by simp)) λq H2 hq2 e2 h2=>?_;refine am6 (SqL.of (e2 _ _ hl1)) (SqL.of h2) ?_;rw[hem];rcases hxy with ⟨rfl,rfl,rfl⟩|⟨hne,_⟩
   . symm
     exact hN _ _ ⟨rfl,e1.trans e2⟩
   rw[show ns.isEmpty=false by cases ns with | nil=>exact absurd rfl hne | cons _ _=>rfl]
   symm
   refine Lo (e2 _ _ hl1) (hat hne).2 ?_
   symm
   exact hN _ _ ⟨rfl,e1.trans e2⟩
 obtain⟨rfl,e2⟩:=hM;clear e1 hl1 hat;have hl2:=e2 _ _ hl
 symm
 rw[A02];refine Pz nofun ?_
 refine Iw Eu (λi σ H'=>∃ x6,σ=[some (.ref p),some (.ref l),some (.int way),some (.str x),some (.str y),some (.int ((fac i:Nat):Int)),x6,none,none,none]/\H'=H2)
  ⟨_,rfl,rfl⟩ (λ_ _ _ _=>trivial) (λi z σ' H3 hz hi hP=>?_) (fun σ' H3 hP=>?_)
 . obtain⟨x6,rfl,rfl⟩:=hP;obtain⟨rfl,hin⟩:=Lu hz;have hi2:i<ns.length:=by simpa using hi
   have hb:fac i<=3628800:=aB7 nofun
   symm
   refine⟨some (.int (0+(i:Int))),?_,rfl⟩
   have e:((fac i:Nat):Int)*(0+(i:Int)+1)=((fac (i+1):Nat):Int):=by
    have:fac (i+1)=fac i*(i+1):=rfl;rw[this]
    push_cast
    congr 1;omega
   rw[e];rfl
 obtain⟨x6,rfl,rfl⟩:=hP;rw[A02,A1R,show(Int.toNat (ns.length:Int))=ns.length by omega];have hm:=λ(Q':VK) (E':XK) (H':Hp) (hK':KpF K C_Keeper H' p pl ul ns) (kk:∀ H'',Same H' H''->Q' (.int ((fac ns.length:Nat):Int)) H'')=>(show Fg C_Keeper K [.ref p] H' Q' E' from⟨p,pl,ul,ns,rfl,hK',kk⟩);generalize fac ns.length=F0 at hf10 hm ⊢;walk_at "rd1"
 with_reducible refine Tv (fun σ' H'=>∃ dv,σ'=[some (.ref p),some (.ref l),some (.int way),some (.str x),some (.str y),some (.int ((F0:Nat):Int)),x6,some dv,none,none]/\Same H H'/\Is K H' (Xr ns x y) dv) (λN hN=>?_) (fun σ4 H4 hM=>?_)
 . symm
   refine Le ?_
   symm
   refine Bq (A8 (by simp)) λq H4 hq4 e4 h4=>?_;refine Zy (SqL.of (e4 _ _ hl2)) (SqL.of h4) ?_;rw[hem];rcases hxy with ⟨rfl,rfl,rfl⟩|⟨hne,_⟩
   . rw[show([]:List Str).isEmpty=true from rfl]
     symm
     refine B7 (A8 ∅) λt5 H5 ht5 e5 h5=>?_
     symm
     exact hN _ _ ⟨_,rfl,(e2.trans e4).trans e5,Is.of_tup (SqT.of h5) (.cons Dp (.one Dp))⟩
   rw[show ns.isEmpty=false by cases ns with | nil=>exact absurd rfl hne | cons _ _=>rfl]
   symm
   refine Bq (A8 (by simp)) λq5 H5 hq5 e5 h5=>?_
   symm
   by_cases hd:x=y
   . subst hd;rw[A0Z rfl]
     symm
     refine Lo h5 (v:=.bl false) (Dl (j:=1) rfl) ?_
     symm
     exact hN _ _ ⟨_,rfl,(e2.trans e4).trans e5,by unfold Xr;rw[if_neg hne,if_pos rfl];exact af6⟩
   rw[A0Q (λz=>hd (V.str.inj z))]
   symm
   refine Lo h5 (v:=.non) (Dl (j:=0) rfl) ?_
   symm
   exact hN _ _ ⟨_,rfl,(e2.trans e4).trans e5,by unfold Xr;rw[if_neg hne,if_neg hd];exact Vi⟩
 obtain⟨dv,rfl,e4,hdv⟩:=hM;clear e2 hl2
 symm
 refine Bq (A8 (by simp)) λw1 H5 hw5 e5 h5=>?_
 symm
 refine Bq (A8 (by simp)) λw2 H6 hw6 e6 h6=>?_
 symm
 refine Bq (A8 (by simp)) λw3 H7 hw7 e7 h7=>?_
 symm
 obtain⟨wl,wa,wb,hwl,hwat,hwab⟩:∃ wl wa wb,H7 wl=some (.lst [.str wa,.str wb])/\atI [V.ref w1,V.ref w2] way=some (.ref wl)/\(∀ z∈[wa,wb],z=("undo":Str)\/z=("redo":Str)):=by
  rcases hway with rfl|rfl
  . exact⟨w1,_,_,e7 _ _ (e6 _ _ h5),Dl (j:=0) rfl,by simp⟩
  exact⟨w2,_,_,e7 _ _ h6,Dl (j:=1) rfl,by simp⟩
 refine Lo h7 hwat ?_;have e47:=(e5.trans e6).trans e7;have hK7:=hK.same (e4.trans e47)
 symm
 refine Rc (ns:=[wa,wb]) ⟨wl,rfl,.inl (SqL.of hwl)⟩ (λ_=>true) (λ_=>PyData.bool true) (λ_=>rfl) (by simp) (λjj o H8 R R' ho e8 hR hR'=>?_) (λq yc H8 hq8 e8 h8 hL8=>?_)
 . symm
   refine⟨p,pl,ul,ns,o,.non,.non,rfl,hK7.same e8,.inl ⟨hwab o (A04 ho),λu H9 e9 hu9=>?_⟩⟩
   symm
   refine B7 (A8 (by simp)) λt10 H10 ht10 e10 h10'=>?_;refine a70 (Is.mono e10 _ _ hu9) (Is.of_tup (ds:=[.str "more"]) (SqT.of h10') (.one Dp)) (by decide +kernel) (by decide +kernel) ?_;rw[show PyData.eqv (.tuple [.str "more"]) (.tuple [.str "more"])=true by decide +kernel];exact hR rfl _ _ (e9.trans e10) af6
 replace hL8:IsL K H8 [.bool true,.bool true] yc:=hL8;obtain⟨v1,r1,rfl,i1,hr1⟩:=Ky hL8;obtain⟨v2,r2,rfl,i2,hr2⟩:=Ky hr1;have e0:r2=[]:=by simpa only[L2.IsL] using hr2
 have e1':v1 = .bl true:=by simpa only[Is] using i1
 have e2':v2 = .bl true:=by simpa only[Is] using i2
 subst e0 e1' e2';have e08:=(e4.trans e47).trans e8;have hK8:=hK.same e08;obtain⟨dx,nv,w,g1,_⟩:=hK8.ex;have hNm:NmP []:=λp hp=>by cases hp
 obtain⟨r1,r2,r3⟩:=(ar9 hNm hK.nd.2 nofun (by simp)).told nofun nofun
 symm
 refine K2 g1 (by rfl) ?_
 symm
 refine⟨p,ns,[],0,rfl,hK8.at,λu9 H9 e9 hu9=>?_⟩
 symm
 refine B7 (A8 (by simp)) λt10 H10 ht10 e10 h10'=>?_;refine a70 (Is.mono e10 _ _ hu9) (Is.of_tup (ds:=[]) (SqT.of h10') .nil) (by decide +kernel) (by decide +kernel) ?_;rw[show PyData.eqv (jsD (([]:List (Nat×(Str×Str))).map (·.1))) (.tuple [])=true by decide +kernel];have e810:=e9.trans e10
 symm
 refine K2 (e810 _ _ g1) (by rfl) ?_
 symm
 refine⟨p,ns,[],0,rfl,hK8.at.same e810,λu11 H11 e11 hu11=>?_⟩
 symm
 refine Kf hu11 r1 r2 r3 ?_;have e811:=e810.trans e11
 symm
 refine an8 (ns:=ns) (e811 _ _ (e08 _ _ hl)) (Oe ns) λtv H12 e12 hI12=>?_
 symm
 refine B7 (A8 (by simp)) λt13 H13 ht13 e13 h13=>?_
 symm
 refine B7 (A8 (by simp)) λt14 H14 ht14 e14 h14=>?_
 symm
 refine Kf (d:=hfD ns []) (aL0 (SqT.of h14) (hI12.nm_fz (e13.trans e14).fz) (Is.of_tup (ds:=[]) (SqT.of (e14 _ _ h13)) .nil)) r1 r2 r3 ?_
 symm
 first | rw[A0Z rfl] | skip
 have e814:=e811.trans ((e12.trans e13).trans e14);refine Iy (e814 _ _ h8) (by simp) λH15 e15 h15=>?_;replace h15:H15 q=some (.lst [.bl true,.bl true,.bl true]):=by rw[h15];simp
 have s15:Same H7 H15:=(e8.trans e814).off hq8 e15;have hK15:=hK7.same s15;have hq0:H q=none:=(e4.trans e47).free hq8;obtain⟨dx5,nv5,w5,g15,_⟩:=hK15.ex;clear hL8 hr1 i1 i2 hu9 hu11 hI12 h13 h14 e12 e13 e14 e11 e9 e10 g1 hK8
 symm
 refine K2 g15 (by rfl) ?_
 symm
 refine hm _ _ _ hK15 λH16 e16=>?_;obtain⟨j1,j2,j3⟩:=(Z2 (p:=1) (W:=1) (m:=(F0:Int)) nofun).told nofun nofun
 symm
 refine Kf (d:=.int (F0:Int)) Gv j1 j2 j3 ?_
 symm
 refine⟨_,rfl,?_,?_⟩
 . rw[Int.natAbs_natCast];rcases A5H F0 with z|z
   . rw[z];decide
   exact(Nat.log2_lt nofun).mpr (A10 (show F0<2 ^ 30 by omega) (A30 (A2H 1) (Nat.le_of_ble_eq_true rfl)))
 symm
 rw[a76,A0Z rfl];have e016:=((e4.trans e47).trans s15).trans e16;have hT16:=hT.same e016;have hl16:=e016 _ _ hl
 symm
 refine⟨p,pl,ul,ns,l,rfl,hK15.same e16,hl16,hT16,λH17 e17 hT17=>?_⟩;have hK17:=(hK15.same e16).tbl hT16 e17;have hl17:=Ra hT16 e17 hl16;have h17:=Ra hT16 e17 (e16 _ _ h15);have b17:ExtBut P_best H H17:=λb o hb z=>e17 _ _ hb (e016 _ _ z);have fz17:Fz H4 H17:=(((e47.trans s15).trans e16).fz).trans (by obtain⟨tps,htb⟩:=Kd hT16;exact Zp e17 htb);have hdv17:=Is.fz fz17 _ _ t5 hdv
 symm
 refine Iy h17 (by simp) λH18 e18 h18=>?_;replace h18:H18 q=some (.lst [.bl true,.bl true,.bl true,.bl true]):=h18
 have hqK:∀ {H' H'':Hp} {xs:List V},ExtBut q H' H''->H' q=some (.lst xs)->KpF K C_Keeper H' p pl ul ns->KpF K C_Keeper H'' p pl ul ns:=fun {H' H'' xs} e hx hk=>by obtain⟨dx',nv',w',z1,z2,z3,z4,z5⟩:=hK.ex;exact hk.of (e.fzL hx) (λo z=>e _ _ (ne_of_none z1 hq0) z) (λo z=>e _ _ (ne_of_none z4 hq0) z) (λo z=>e _ _ (ne_of_none z5 hq0) z)
 have hK18:=hqK e18 h17 hK17;have hl18:=e18 _ _ (ne_of_none hl hq0) hl17;have b18:ExtBut P_best H H18:=b17.off hq0 e18;have hdv18:=Is.fz (e18.fzL h17) _ _ t5 hdv17;have hT18:LmT P_best H18:=LamT.but hT17 e18 h17 (λ_ z=>by cases z) (λ_ z=>by cases z);clear e17 hT16 hl16 hT17 hdv17 hK17 hl17 b17 fz17
 symm
 refine Wj hK18 (.inr rfl) hxy λu19 H19 e19 hu19=>?_
 have hu19':Is K H19 (Xr ns x y) u19:=by unfold Xr;simpa using hu19
 symm
 refine Kf hu19' t1 t2 t3 ?_
 symm
 refine Kf (Is.mono e19 _ _ hdv18) t1 t2 t3 ?_
 symm
 first | rw[A0Z rfl] | skip
 refine Iy (e19 _ _ h18) (by simp) λH20 e20 h20=>?_;replace h20:H20 q=some (.lst [.bl true,.bl true,.bl true,.bl true,.bl true]):=by rw[h20];simp
 have hK20:=hqK e20 (e19 _ _ h18) (hK18.same e19);have hl20:=e20 _ _ (ne_of_none hl hq0) (e19 _ _ hl18);have b20:ExtBut P_best H H20:=(b18.same e19).off hq0 e20;have hdv20:=Is.fz (e20.fzL (e19 _ _ h18)) _ _ t5 (Is.mono e19 _ _ hdv18);have hT20:LmT P_best H20:=LamT.but (hT18.same e19) e20 (e19 _ _ h18) (λ_ z=>by cases z) (λ_ z=>by cases z)
 symm
 refine Wj hK20 (.inl rfl) hxy λu21 H21 e21 hu21=>?_
 symm
 refine Le ?_
 symm
 refine Bq (A8 (by simp)) λq22 H22 hq22 e22 h22=>?_;refine Zy (SqL.of (e22 _ _ (e21 _ _ hl20))) (SqL.of h22) ?_;rw[hem]
 obtain⟨D,dv',hd1,hd2,hD1,hD2,hD3,hD4⟩:∃ D dv',(ns.isEmpty=true->dv'=dv)/\(ns.isEmpty=false->dv' = .non)/\Is K H22 D u21/\Is K H22 D dv'/\SeqAt.shaped D=true/\PyData.eqv D D=true:=by
  by_cases hne:ns=[]
  . subst hne;exact⟨.tuple [.str "name",.str "a"],dv,λ_=>rfl,λz=>(by cases z),Is.mono e22 _ _ hu21,Is.mono (e21.trans e22) _ _ hdv20,by decide +kernel,by decide +kernel⟩
  rw[A0J hne,A0J (λz=>absurd z.1 (by decide +kernel))] at hu21;exact⟨.none,.non,λz=>absurd (List.isEmpty_iff.mp z) hne,λ_=>rfl,Is.mono e22 _ _ hu21,Vi,by decide +kernel,by decide +kernel⟩
 refine⟨_,rfl,?_⟩
 cases hE:ns.isEmpty
 case' false=>obtain rfl:=hd2 hE
 case' true=>obtain rfl:=hd1 hE
 all_goals
  symm
  refine a70 hD1 hD2 hD3 hD3 ?_;rw[hD4]
  symm
  have s22:=e21.trans e22;refine Iy (s22 _ _ h20) (by simp) λH23 e23 h23=>?_;replace h23:H23 q=some (.lst [.bl true,.bl true,.bl true,.bl true,.bl true,.bl true]):=h23;have hK23:=hqK e23 (s22 _ _ h20) (hK20.same s22);have b23:ExtBut P_best H H23:=(b20.same s22).off hq0 e23;have hT23:LmT P_best H23:=LamT.but (hT20.same s22) e23 (s22 _ _ h20) (λ_ z=>by cases z) (λ_ z=>by cases z)
  symm
  refine⟨p,pl,ul,ns,_,_,_,rfl,hK23,.inr (.inl ⟨rfl,0,rfl,λu24 H24 e24 hu24=>?_⟩)⟩
  symm
  refine B7 (A8 ∅) λt25 H25 ht25 e25 h25=>?_;refine a70 (Is.mono e25 _ _ hu24) (Is.of_tup (ds:=[.str "saying",.int 0]) (SqT.of h25) (.cons Dp (.one Gv))) (by decide +kernel) (by decide +kernel) ?_;rw[show PyData.eqv (.tuple [.str "saying",.int 0]) (.tuple [.str "saying",.int 0])=true by decide +kernel]
  symm
  have s25:=e24.trans e25;refine Iy (s25 _ _ h23) (by simp) λH26 e26 h26=>?_;replace h26:H26 q=some (.lst ([true,true,true,true,true,true,true].map V.bl)):=h26
  symm
  refine ap4 (bs:=[true,true,true,true,true,true,true]) (SqL.of h26) ?_;exact k H26 ((b23.same s25).off hq0 e26) (LamT.but (hT23.same s25) e26 (s25 _ _ h23) (λ_ z=>by cases z) (λ_ z=>by cases z))
theorem Pu {K:PySem.W.Frag}{H:Hp}{a:Addr}{fs:List Str}{v:V}{d:PyData}(hS:SqL K H a (fs.map V.str++[v])\/SqT K H a (fs.map V.str++[v]))(hI:Is K H d v)(hfs:∀ z∈fs,Nt z=true)(hl:fs.length<=10)(hd:Dk 5 150 100 d)(hno:Ti d=false):BadK K H (.ref a):=by
 refine .inr ⟨a,_,fs.map .str++[d],6,_,200,rfl,hS,IsL.append (Oe fs) (.one hI),Kx (Els.app (Mx (p:=5) (W:=100) hfs nofun) (Els.one hd ∅) (by simp;omega) ∅),by omega,by omega,?_⟩;rintro⟨ns,e,hn,_⟩;injection e with e;have:d∈ns.map PyData.str:=by rw[<- e];simp
 obtain⟨z,hz,rfl⟩:=A0E.mp this;rw[show Ti (.str z)=Gu z from rfl,hn z hz] at hno
 cases hno
theorem Ys {K:PySem.W.Frag}{H:Hp}{a:Addr}{fs:List Str}(hS:SqL K H a (fs.map V.str)\/SqT K H a (fs.map V.str))(hfs:∀ z∈fs,Nt z=true)(hl:fs.length<=11)(hno:fs.Nodup->10<fs.length):BadK K H (.ref a):=by refine .inr ⟨a,_,fs.map .str,6,_,100,rfl,hS,Oe fs,Kx (Mx (p:=5) (W:=100) hfs nofun),by omega,by omega,?_⟩;rintro⟨ns,e,hn,hnd,hle⟩;have:=a82 (show nmD fs=nmD ns from e);subst this;have:=hno hnd;omega
def xs11:List Str:=["x","y","z","w","v","u","t","s","r","q","p"]
theorem aw5:∀ z∈xs11,Nt z=true:=by decide +kernel
theorem ap9:xs11.Nodup:=by decide +kernel
theorem aJ3 {ns:List Str}(h:ns.length<=10):∃ z r,xs11.filter (λz=>decide (z∉ns))=z :: r:=by
 cases e:xs11.filter (λz=>decide (z∉ns)) with
 |cons z r=>exact⟨z,r,rfl⟩
 |nil=>
   have:xs11.length<=ns.length:=Cc ap9 λz hz=>by have:=List.filter_eq_nil_iff.mp e z hz;simpa using this
   have h11:xs11.length=11:=rfl;omega
theorem KpF.draw {K:W.Frag}{C f l:Addr}{H H':Hp}{p pl ul:Addr}{ns:List Str}(h:KpF K C H p pl ul ns)(hF:Feed H f l)(e:ExtBut f H H'):KpF K C H' p pl ul ns:=by have fz:=hF.fz e;obtain⟨a,t,u,cs,h1,_⟩:=hF;exact h.ext e fz h1 (λ_ _ _ z=>by cases z) (λ_ z=>by cases z)
def spLaw (P:Addr)(K:W.Frag):Sp:=λvs H Q _=>∃(a:Addr) (ns:List Int),vs=[.ref a]/\SqL K H a (ns.map V.int)/\ns.length<=63/\LmT P H/\∀ H',Q (.bl true) H'
theorem Kv {P f l:Addr}{H H':Hp}(h:LmT P H)(hF:Feed H f l)(e:ExtBut f H H'):LmT P H':=by obtain⟨_,_,_,_,h1,_⟩:=hF;exact LamT.but h e h1 (λ_ z=>by cases z) (λ_ z=>by cases z)
theorem ak1 {P f l:Addr}{H H':Hp}(hT:LmT P H)(hF:Feed H f l)(e:ExtBut P H H'):Feed H' f l:=by obtain⟨ps,ht⟩:=Kd hT;obtain⟨a,t,u,cs,h1,h2,h3,h4⟩:=hF;exact⟨a,t,u,cs,e _ _ (ne_of h1 ht (by intro z;cases z)) h1,e _ _ (ne_of h2 ht (by intro z;cases z)) h2,h3,h4⟩
theorem aH0 {f:Addr}{fd:FuncData}(F:Fun K "law" "law" Qj f fd)(T:Gg mg){P_best:Addr}{C_Keeper:Addr}(k_Keeper:Av K C_Keeper)(Jx:Fnd P w K mg base 1 "_law_feed" ["_law_script"] (Iq K))(B5:Fnd P w K mg base 1 "_law_draw" ["_law_feed_here","_law_many"] (Gk K))(Gp:Fnd P w K mg base 2 "_law_names" ["_law_feed_here","_law_many"] (Ic K))(Iv:Fnd P w K mg base 6 "_law_begun" ["_law_thing"] (Ii K))(Gs:Fnd P w K mg base 19 "_law_fresh" ["_law_keeper","_law_names_here","_law_way"] (Hu P_best C_Keeper K))(Ib:Mkd P w K mg base 4 C_Keeper "Keeper" ["self","names"] (Gz C_Keeper K)):FnOk P w K mg base CX0 20 f fd ["_law_script"] (spLaw P_best K):=by
 refine F.ok Io (λvs H Q E h=>?_) (λcdv A outer s H vs Q E hr h=>?_)
 . obtain⟨a,ns,rfl,_⟩:=h;rfl
 obtain⟨a,cs,rfl,hS,h63,hT,k⟩:=h;have hu:=Cg hr;have hq:=Cf hr
 with_reducible refine⟨_,(A3 (Ad (i:=1) Io.nd ⋯ (by eq_refl) (Ch Jx (hr.mono ∅) ⋯ (A1 (pv 0) A2)))
  (A3 (Eo A17 ⋯ (Hh ⋯ T.b_range (A1 A6 A2)) (Al (i:=2) Io.nd ⋯ (by eq_refl))
  (A3 (Ad (i:=3) Io.nd ⋯ (by eq_refl) (Ch Gp (hr.mono ∅) ⋯ (A1 (pv 1) (A1 (Ch B5 (hr.mono ∅) ⋯ (A1 (pv 1) (A1 A6 A2))) A2))))
  (A3 (Ad (i:=4) Io.nd ⋯ (by eq_refl) (Ak (A7 (K:=K) hu) (Bf (A1 (As (Bd (K:=K)) ⋯ T.b_tuple PyProof.Rows.Boot.«tuple» (A1 (pv 3) A2)) (A1 (As (Pj (K:=K)) ⋯ T.b_list PyProof.Rows.Boot.«list» (A1 (pv 3) A2)) A2))) (Ch B5 (hr.mono ∅) ⋯ (A1 (pv 1) (A1 A6 A2))) (by ac_rfl)))
  (A3 (Ad (i:=5) Io.nd ⋯ (by eq_refl) (ap0 Ib (hr.mono ∅) ⋯ (A1 (pv 4) A2)))
  (A3 (Cq (Di (Ae (Iz (K:=K)) ⋯ T.b_isinstance PyProof.Rows.Boot.«isinstance» (A1 (pv 4) (A1 (Hm (v:=.ty "list") ⋯ T.b_list PyProof.Rows.Boot.«list» ⋯) A2)))) (A3 (Bs (Eh (K:=K) A0I A0V A0W (mm Bg) (pv 4) (A1 Ab A2)))
  (A5 (Bs (Qg (K:=K) A0I PySem.F.slot_list_reverse PySem.F.type_list_reverse (mm X9) (pv 4))))) Ax)
  (A3 (Cq (PW.pt (a51 (Hf (Di (Ch Gs (hr.mono ∅) ⋯ (A1 (pv 5) (A1 (pv 3) (A1 (Ch B5 (hr.mono ∅) ⋯ (A1 (pv 1) (A1 A6 A2))) A2)))))) (Sm (Hf (Di (Ch Gs (hr.mono ∅) ⋯ (A1 (pv 5) (A1 (pv 3) (A1 A6 A2))))))))) (A5 (At Ku)) Ax)
  (A3 (Ad (i:=6) Io.nd ⋯ (by with_unfolding_all exact A3W rfl) (Ch Gp (hr.mono ∅) ⋯ (A1 (pv 1) (A1 A6 A2))))
  (A3 (Ad (i:=7) Io.nd ⋯ (by eq_refl) (Bf (A1 Ab (A1 Ab (A1 Ab (A1 Ab (A1 Ab (A1 Ab (A1 Ab (A1 Ab (A1 Ab (A1 Ab (A1 Ab A2)))))))))))))
  (A3 (Bs (Eh (K:=K) A0I A0V A0W (mm Bg) (pv 6) (A1 (Ak (A7 (K:=K) hu) (Dm ["_law_name"] ["_law_eleven"] [6] ⋯ ⋯ ⋯ (B3 (K:=K) hu (pv 7)) (λ_ _ _ _=>(Al (i:=0) (by with_unfolding_all (show(["_law_name","_law_eleven"]:List Str).Nodup;decide +kernel)) ⋯ (by eq_refl))) (Cd ∅) (λ_ _ _ _=>(Qh (An (Gc (K:=K) hq) (pv 0) (pv 1) ⋯))) (λ_ _ _ _=>(pv 0))) A6 (by ac_rfl)) A2)))
  (A3 (Ad (i:=8) Io.nd ⋯ (by eq_refl) (Ek (a65 (K:=K)) (pv 3) K3 (Dv A6)))
  (A3 (Ad (i:=9) Io.nd ⋯ (by eq_refl) (Bf (A1 (pv 6) (A1 (As (Bd (K:=K)) ⋯ T.b_tuple PyProof.Rows.Boot.«tuple» (A1 (pv 6) A2)) (A1 (Ar (Am (K:=K)) (pv 8) (Bf (A1 Ab (A1 Ab A2)))) (A1 (Ar (Am (K:=K)) (pv 8) (Bf (A1 Ab A2))) (A1 (Ar (Am (K:=K)) (pv 8) (Bf (A1 Ab A2))) (A1 (Ar (Am (K:=K)) (pv 8) (Bf (A1 A6 A2))) (A1 (Ar (Am (K:=K)) (As (Bd (K:=K)) ⋯ T.b_tuple PyProof.Rows.Boot.«tuple» (A1 (pv 8) A2)) (B0 (A1 G4 A2))) A2)))))))))
  (A3 (Ad (i:=9) Io.nd ⋯ (by eq_refl) (Ar (Am (K:=K)) (pv 9) (Bf (A1 G4 (A1 Ku (A1 Ab (A1 A6 (A1 Ml (A1 (Nk (Gj Ab A6 Ny) ⋯ ⋯ ∅ ∅) (A1 (Ar (Am (K:=K)) (pv 8) (Bf (A1 (Bf (A1 Ab A2)) A2))) (A1 (Ar (Am (K:=K)) (pv 8) (Bf (A1 Ab A2))) A2)))))))))))
  (A5 (Eo A17 ⋯ (B3 (K:=K) hu (pv 9)) (Al (i:=10) Io.nd ⋯ (by eq_refl))
  (A5 (Cq (An (aA3 (K:=K) hq) (Ch Iv (hr.mono ∅) ⋯ (A1 (pv 10) A2)) (B0 (A1 Ab (A1 (af5 Vx A6) A2))) (Ay _)) (A5 (At Ku)) Ax))))))))))))))))
  (A5 (At Ku)))),?_⟩
 symm
 refine⟨a,cs,rfl,hS,h63,λf l H1 hf hl e1 hF=>?_⟩;have hT1:=hT.same e1
 symm
 refine Pz ∅ ?_
 refine Iw Eu (λi σ H'=>∃ x2 x3 x4 x5 x6 x7 x8 x9 x10,σ=[some (.ref a),some (.ref f),x2,x3,x4,x5,x6,x7,x8,x9,x10]/\Feed H' f l/\LmT P_best H')
  ⟨_,_,_,_,_,_,_,_,_,rfl,hF,hT1⟩ (λ_ _ _ _=>trivial) (λi x σ' H1 hx hi hP=>?_) (fun σ' H1 hP=>?_)
 . clear e1 hF hT1 hf hl;obtain⟨x2,x3,x4,x5,x6,x7,x8,x9,x10,rfl,hF,hT1⟩:=hP
   symm
   refine⟨f,l,_,rfl,hF,by omega,by omega,λc2 H2 hc0 hc1 e2 hF2=>?_⟩;have hT2:=Kv hT1 hF e2
   symm
   refine⟨f,l,_,rfl,hF2,by omega,by omega,λnl ns H3 hn3 e3 hF3 h3 hN hnl=>?_⟩;have hT3:=Kv hT2 hF2 e3;have h10:ns.length<=10:=by omega
   symm
   refine Gi (SqL.of h3) λt4 H4 ht4 e4 h4=>?_
   symm
   refine au3 (.inl (SqL.of (e4 _ _ h3))) λl5 H5 hl5 e5 h5=>?_
   symm
   refine Bq (A8 (by simp)) λd6 H6 hd6 e6 h6=>?_;have e36:=(e4.trans e5).trans e6;have hF6:=hF3.same e36;have hT6:=hT3.same e36
   symm
   refine⟨f,l,_,rfl,hF6,by omega,by omega,λc7 H7 hc70 hc71 e7 hF7=>?_⟩;have hT7:=Kv hT6 hF6 e7;have h6n:=e36 _ _ h3;have h7n:=e7 _ _ (hF6.lst h6n) h6n
   obtain⟨ha,hat,hnl4,hh⟩:∃ ha,atI [V.ref t4,V.ref l5] c7=some (.ref ha)/\ha≠nl/\(SqT K H7 ha (ns.map V.str)\/(H7 ha=some (.lst (ns.map V.str))/\H3 ha=none)):=by
    rcases(show c7=0\/c7=1 by omega) with rfl|rfl
    . exact⟨t4,Dl (j:=0) rfl,(λz=>by rw[z,h3] at ht4;cases ht4),.inl ((hF6.fz e7).seq (SqT.of (e6 _ _ (e5 _ _ h4))))⟩
    exact⟨l5,Dl (j:=1) rfl,(λz=>by rw[z,e4 _ _ h3] at hl5;cases hl5),.inr ⟨e7 _ _ (hF6.lst (e6 _ _ h5)) (e6 _ _ h5),e4.free hl5⟩⟩
   symm
   refine Lo (e7 _ _ (hF6.lst h6) h6) hat ?_
   symm
   refine aQ0 λp dx H8 hp8 e8 h8=>?_
   have hh8:SqL K H8 ha (ns.map V.str)\/SqT K H8 ha (ns.map V.str):=by
    rcases hh with q|⟨q,_⟩
    . exact .inr (e8.seqT q)
    exact .inl (SqL.of (e8 _ _ q))
   refine⟨p,.ref ha,dx,ns,rfl,h8,⟨ha,rfl,hh8⟩,hN,h10,λpl ul H9 hpl hul e9 hK9=>⟨rfl,?_⟩⟩;have hfz9:Fz H8 H9:=e9.fzI h8
   have hF9:Feed H9 f l:=by obtain⟨a',t,u,cs',g1,g2,g3,g4⟩:=hF7.same e8;exact⟨a',t,u,cs',e9 _ _ (ne_of g1 h8 (by intro z;cases z)) g1,e9 _ _ (ne_of g2 h8 (by intro z;cases z)) g2,g3,g4⟩
   have hT9:LmT P_best H9:=LamT.but (hT7.same e8) e9 h8 (λ_ z=>by cases z) (λ_ z=>by cases z);have h9n:H9 nl=some (.lst (ns.map V.str)):=e9 _ _ (ne_of (e8 _ _ h7n) h8 (by intro z;cases z)) (e8 _ _ h7n)
   have hh9:SqT K H9 ha (ns.map V.str)\/(H9 ha=some (.lst (ns.map V.str))/\ha≠f/\ha≠l/\ha≠p/\ha≠pl/\ha≠ul/\ha≠P_best):=by
    rcases hh with q|⟨q,q3⟩
    . exact .inl (hfz9.seq (e8.seqT q))
    have q8:=e8 _ _ q;refine .inr ⟨e9 _ _ (ne_of q8 h8 (by intro z;cases z)) q8,?_,?_,?_,?_,?_,?_⟩
    . obtain⟨a',t,u,cs',g1,g2,g3,g4⟩:=hF3;exact λz=>by rw[z,g1] at q3;cases q3
    . obtain⟨a',t,u,cs',g1,g2,g3,g4⟩:=hF3;exact λz=>by rw[z,g2] at q3;cases q3
    . exact ne_of q8 h8 (by intro z;cases z)
    . exact ne_of_none q8 hpl
    . exact ne_of_none q8 hul
    obtain⟨tps,htb⟩:=Kd hT7;exact ne_of q htb (by intro z;cases z)
   clear hh hh8 e2 e3 hF2 hT2 hF hT1 hT3 e36 hF6 hT6 hT7 hF7 e8 e9 hfz9 h6n h7n e7;walk_at "rq"
   with_reducible refine Tv (fun σ' H'=>σ'=[some (.ref a),some (.ref f),some x,some (.ref nl),some (.ref ha),some (.ref p),x6,x7,x8,x9,x10]/\Feed H' f l/\LmT P_best H'/\H' nl=some (.lst (ns.map V.str))/\KpF K C_Keeper H' p pl ul ns) (λN hN'=>?_) (fun σ1 H11 hM=>?_)
   . symm
     rcases hh9 with q|⟨q,q1,q2,q3,q4,q5,q6⟩
     . refine a00 q (b:=false) (by first | rfl | kernel_rfl) ?_
       symm
       exact hN' _ _ ⟨rfl,hF9,hT9,h9n,hK9⟩
     refine Ym (SqL.of q) (b:=true) (by first | rfl | kernel_rfl) ?_
     symm
     refine Iy q (by simp;omega) λH10 e10 h10'=>?_
     symm
     refine Zf h10' λH11 e11 h11=>?_;have ex:∀ b o,b≠ha->H9 b=some o->H11 b=some o:=λb o hb z=>e11 _ _ hb (e10 _ _ hb z);have fzx:Fz H9 H11:=(e10.fzL q).trans (e11.fzL h10')
     symm
     refine hN' _ _ ⟨rfl,?_,?_,ex _ _ (Ne.symm hnl4) h9n,hK9.of fzx (λo z=>ex _ _ (Ne.symm q3) z) (λo z=>ex _ _ (Ne.symm q4) z) (λo z=>ex _ _ (Ne.symm q5) z)⟩
     . obtain⟨a',t,u,cs',g1,g2,g3,g4⟩:=hF9;exact⟨a',t,u,cs',ex _ _ (Ne.symm q1) g1,ex _ _ (Ne.symm q2) g2,g3,g4⟩
     exact LamT.but hT9 (λb o hb z=>ex _ _ hb z) q (λ_ z=>by cases z) (λ_ z=>by cases z)
   obtain⟨rfl,hF11,hT11,h11n,hK11⟩:=hM;clear hh9 hF9 hT9 h9n hK9
   symm
   refine⟨f,l,_,rfl,hF11,by omega,by omega,λc12 H12 hc120 hc121 e12 hF12=>?_⟩;have hT12:=Kv hT11 hF11 e12;have hK12:=hK11.draw hF11 e12;have h12n:=e12 _ _ (hF11.lst h11n) h11n
   symm
   refine⟨p,pl,ul,ns,nl,c12,rfl,hK12,h12n,by omega,hT12,λH13 e13 hT13=>?_⟩;have hK13:=hK12.tbl hT12 e13;have h13n:=Ra hT12 e13 h12n;have hF13:=ak1 hT12 hF12 e13
   symm
   refine⟨p,pl,ul,ns,nl,0,rfl,hK13,h13n,.inl rfl,hT13,λH14 e14 hT14=>?_⟩;have h14n:=Ra hT13 e14 h13n;have hF14:=ak1 hT13 hF13 e14;clear hF11 hT11 h11n hK11 e12 hF12 hT12 hK12 h12n e13 hT13 hK13 h13n hF13 e14
   symm
   refine⟨f,l,_,rfl,hF14,by omega,by omega,λel ms H15 he15 e15 hF15 h15 hM15 hml=>?_⟩;have hT15:=Kv hT14 hF14 e15;have h15n:=e15 _ _ (hF14.lst h14n) h14n
   symm
   refine Bq (A8 ∅) λso H16 hs16 e16 h16=>?_
   symm
   refine Rc (ns:=xs11) ⟨so,rfl,.inl (SqL.of h16)⟩ (λz=>decide (z∉ms)) PyData.str (λ_=>rfl) ∅ (λjj o H17 R R' ho e17 hR hR'=>?_) (λlc yc H17 hlc e17 h17 hL17=>?_)
   . symm
     refine aw2 (SqL.of (e17 _ _ (e16 _ _ h15))) ?_
     symm
     refine ap6 (λhb=>?_) (λhb=>?_)
     . symm
       exact hR (A0Z hb) _ _ (.refl _) Dp
     exact hR' (A0Q (λz=>z hb)) _ (.refl _)
   obtain⟨z,r,hz⟩:=aJ3 (ns:=ms) nofun;rw[hz] at hL17;have hys:=IsL.str_eq (ns:=z :: r) hL17;subst hys;have hzm:z∈xs11:=(List.mem_filter.mp (show z∈xs11.filter _ by rw[hz];simp)).1;have hzn:=aw5 z hzm;have h17e:=e17 _ _ (e16 _ _ h15)
   symm
   refine Lo h17 (v:=.str z) (Dl (j:=0) rfl) ?_
   symm
   refine Iy h17e (by simp;omega) λH18 e18 h18=>?_;have s17:Same H15 H17:=e16.trans e17;have hne:el≠nl:=λq=>by rw[q,h14n] at he15;cases he15
   have h18n:H18 nl=some (.lst (ns.map V.str)):=e18 _ _ (Ne.symm hne) (s17 _ _ h15n)
   have hF18:Feed H18 f l:=by have q1:=hF14.nd he15;obtain⟨a',t,u,cs',g1,g2,g3,g4⟩:=hF14;obtain⟨a'',t',u',cs'',g1',g2',g3',g4'⟩:=hF15.same s17;exact⟨a'',t',u',cs'',e18 _ _ (λq=>by rw[q,he15] at g1;cases g1) g1',e18 _ _ (λq=>by rw[q,he15] at g2;cases g2) g2',g3',g4'⟩
   have hT18:LmT P_best H18:=LamT.but (hT15.same s17) e18 h17e (λ_ z=>by cases z) (λ_ z=>by cases z);replace h18:H18 el=some (.lst ((ms++[z]).map V.str)):=by rw[h18,A16];rfl
   have hzN:∀ y∈ms++[z],Nt y=true:=λy hy=>by
    rcases A0G.mp hy with q|q
    . exact hM15.2 y q
    rw[A29.mp q];exact hzn
   have hfs:∀ y∈ns.take 9,Nt y=true:=λy hy=>hN.2 y (A2Z hy);have hfl:(ns.take 9).length<=9:=by rw[A14];omega
   clear hL17 hlc h17 h16 h15 h15n hT15 hF15 hF14 hT14 h14n e16 e17 e18 h17e s17
   symm
   refine Uc (SqL.of h18n) λfw H19 hfw e19 h19=>?_;rw[Qo nofun,show Int.toNat 9=9 from rfl,<- List.map_take] at h19;generalize ns.take 9=fs at hfs hfl h19
   symm
   refine Gi (SqL.of (e19 _ _ h18)) λt20 H20 ht20 e20 h20=>?_
   symm
   refine Bq (A8 ∅) λa21 H21 _ e21 h21=>?_;have s21:=e20.trans e21;refine Jq (s21 _ _ h19) h21 (A8 (by simp;omega)) λb22 H22 _ e22 h22=>?_
   symm
   refine Bq (A8 ∅) λa23 H23 _ e23 h23=>?_;have s23:=(s21.trans e22).trans e23;refine Jq (s23 _ _ h19) h23 (A8 (by simp;omega)) λb24 H24 _ e24 h24=>?_
   symm
   refine Bq (A8 ∅) λa25 H25 _ e25 h25=>?_;have s25:=(s23.trans e24).trans e25;refine Jq (s25 _ _ h19) h25 (A8 (by simp;omega)) λb26 H26 _ e26 h26=>?_
   symm
   refine Bq (A8 ∅) λa27 H27 _ e27 h27=>?_;have s27:=(s25.trans e26).trans e27;refine Jq (s27 _ _ h19) h27 (A8 (by simp;omega)) λb28 H28 _ e28 h28=>?_;have s28:=s27.trans e28
   symm
   refine Gi (SqL.of (s28 _ _ h19)) λa29 H29 _ e29 h29=>?_
   symm
   refine B7 (A8 ∅) λa30 H30 _ e30 h30=>?_;refine am1 (SqT.of (e30 _ _ h29)) (SqT.of h30) (A8 (by simp;omega)) λb31 H31 e31 h31=>?_;have s31:=s28.trans ((e29.trans e30).trans e31)
   symm
   refine Bq (A8 (by simp)) λb1 H32 _ e32 h32=>?_;have s32:=s31.trans e32
   have B1:∀ v∈[V.ref el,.ref t20,.ref b22,.ref b24,.ref b26,.ref b28,.ref b31],BadK K H32 v:=λv hv=>by
    simp only[List.mem_cons,List.not_mem_nil,or_false] at hv;rcases hv with rfl|rfl|rfl|rfl|rfl|rfl|rfl
    . exact(Ys (.inl (SqL.of h18)) hzN (by simp;omega) (λ_=>by simp;omega)).same (e19.trans s32)
    . exact(Ys (.inr (SqT.of h20)) hzN (by simp;omega) (λ_=>by simp;omega)).same (((((e21.trans e22).trans (e23.trans e24)).trans (e25.trans e26)).trans (e27.trans e28)).trans (((e29.trans e30).trans e31).trans e32))
    . refine(Ys (fs:=fs++[("zz":Str),"zz"]) (.inl (SqL.of (by rw[List.map_append];exact h22))) (λy hy=>?_) (by simp;omega) (λq=>?_)).same ((((e23.trans e24).trans (e25.trans e26)).trans (e27.trans e28)).trans (((e29.trans e30).trans e31).trans e32))
      . rcases A0G.mp hy with q|q
        . exact hfs y q
        simp only[List.mem_cons,List.not_mem_nil,or_false,or_self] at q;rw[q];decide +kernel
      have:=(A1S.mp q).2.1;exact absurd this ∅
    . exact(Pu (d:=.str "A") (.inl (SqL.of h24)) Dp hfs nofun (W4 (by unfold Asc;decide +kernel) (by decide +kernel)) (by decide +kernel)).same (((e25.trans e26).trans (e27.trans e28)).trans (((e29.trans e30).trans e31).trans e32))
    . exact(Pu (d:=.str "") (.inl (SqL.of h26)) Dp hfs nofun (W4 (by unfold Asc;decide +kernel) (by decide +kernel)) (by decide +kernel)).same ((e27.trans e28).trans (((e29.trans e30).trans e31).trans e32))
    . exact(Pu (d:=.int 1) (.inl (SqL.of h28)) Gv hfs nofun (Z2 ∅) rfl).same (((e29.trans e30).trans e31).trans e32)
    exact(Pu (d:=.none) (.inr h31) Vi hfs nofun ⟨by decide +kernel,by decide +kernel,by decide +kernel,by decide +kernel,by decide +kernel,by decide +kernel,by decide +kernel⟩ rfl).same e32
   have s18:=e19.trans s32;have hF32:=hF18.same s18;have hT32:=hT18.same s18;have h32f:=s32 _ _ h19;clear h18 h18n hF18 hT18 h20 h21 h22 h23 h24 h25 h26 h27 h28 h29 h30 h31 e20 e21 e22 e23 e24 e25 e26 e27 e28 e29 e30 e31 e32 s21 s23 s25 s27 s28 s31 s32 e19 s18 h19
   symm
   refine Wf λd33 H33 _ e33 h33=>?_
   symm
   refine Ru λd34 H34 hd34 e34 h34=>?_
   symm
   refine Oa [(Sum.inr "a",.int 1)] h34 (by rfl) (by show 1<=15;decide) λH35 e35 h35=>?_;have s35:Same H33 H35:=λb o hb=>e35 b o (ne_of_none hb hd34) (e34 _ _ hb);have s325:=e33.trans s35
   symm
   refine Bq (A8 ∅) λa36 H36 _ e36 h36=>?_
   symm
   refine Bq (A8 (by simp)) λa37 H37 _ e37 h37=>?_;have s37:=s325.trans (e36.trans e37);refine Jq (s37 _ _ h32f) h37 (A8 (by simp;omega)) λb38 H38 _ e38 h38=>?_
   symm
   refine Bq (A8 ∅) λa39 H39 _ e39 h39=>?_;have s39:=s37.trans (e38.trans e39);refine Jq (s39 _ _ h32f) h39 (A8 (by simp;omega)) λb40 H40 _ e40 h40=>?_
   symm
   refine Bq (A8 (by simp)) λb2 H41 _ e41 h41=>?_;have s41:=s39.trans (e40.trans e41)
   have B2:∀ v∈[V.non,.bl true,.str "ab",.int 0,.ref d33,.ref d34,.ref b38,.ref b40],BadK K H41 v:=λv hv=>by
    simp only[List.mem_cons,List.not_mem_nil,or_false] at hv;rcases hv with rfl|rfl|rfl|rfl|rfl|rfl|rfl|rfl
    . exact .inl ⟨_,.non⟩
    . exact .inl ⟨_,.bl _⟩
    . exact .inl ⟨_,.str _⟩
    . exact .inl ⟨_,.int _⟩
    . exact(show BadK K H33 _ from .inl ⟨_,.dK h33⟩).same (s35.trans (((e36.trans e37).trans (e38.trans e39)).trans (e40.trans e41)))
    . exact(show BadK K H35 _ from .inl ⟨_,.dK h35⟩).same (((e36.trans e37).trans (e38.trans e39)).trans (e40.trans e41))
    . exact(Pu (d:=.list [.str "a"]) (.inl (SqL.of h38)) (by simp only[Is];exact⟨a36,_,rfl,SqL.of (e38 _ _ (e37 _ _ h36)),.one Dp⟩) hfs nofun ⟨by decide +kernel,by decide +kernel,by decide +kernel,by decide +kernel,by decide +kernel,by decide +kernel,by decide +kernel⟩ rfl).same (e39.trans (e40.trans e41))
    exact(Pu (d:=.str "abcdefghi") (.inl (SqL.of h40)) Dp hfs nofun (W4 (by unfold Asc;decide +kernel) (by decide +kernel)) (by decide +kernel)).same e41
   refine Jq (s41 _ _ h32) h41 (A8 (by simp)) λbl H42 _ e42 h42=>?_
   have hB:∀ v∈[V.ref el,.ref t20,.ref b22,.ref b24,.ref b26,.ref b28,.ref b31]++[V.non,.bl true,.str "ab",.int 0,.ref d33,.ref d34,.ref b38,.ref b40],BadK K H42 v:=λv hv=>by
    rcases A0G.mp hv with q|q
    . exact(B1 v q).same (s41.trans e42)
    exact(B2 v q).same e42
   have hF42:=hF32.same (s41.trans e42);have hT42:=hT32.same (s41.trans e42);clear B1 B2 h32 h41 h40 h39 h38 h37 h36 h35 h34 h33 h32f hF32 hT32;generalize [V.ref el,.ref t20,.ref b22,.ref b24,.ref b26,.ref b28,.ref b31]++[V.non,.bl true,.str "ab",.int 0,.ref d33,.ref d34,.ref b38,.ref b40]=bs at hB h42
   symm
   refine Zl (SqL.of h42) ?_
   refine Iw (Je (xs:=bs)) (λj σ H'=>∃ y10,σ=[some (.ref a),some (.ref f),some x,some (.ref nl),some (.ref ha),some (.ref p),some (.ref el),some (.ref so),some (.ref fw),some (.ref bl),y10]/\Same H42 H')
    ⟨_,rfl,.refl _⟩ (λj σ' H' hP=>?_) (λj v σ' H43 hv hj hP=>?_) (fun σ' H43 hP=>?_)
   . obtain⟨_,_,e⟩:=hP;exact SqL.of (e _ _ h42)
   . obtain⟨y10,rfl,e43⟩:=hP
     symm
     refine⟨v,rfl,(hB v (A04 hv)).same e43,λu H44 e44 hu44=>?_⟩
     symm
     refine B7 (A8 ∅) λt45 H45 _ e45 h45=>?_;refine aM6 (Is.mono e45 _ _ hu44) (Is.of_tup (ds:=[.str "tale",.int (-1)]) (SqT.of h45) (.cons Dp (.one Gv))) (by decide +kernel) (by decide +kernel) ?_;rw[show PyData.eqv (.tuple [.str "tale",.int (-1)]) (.tuple [.str "tale",.int (-1)])=true by decide +kernel]
     symm
     exact⟨_,rfl,(e43.trans e44).trans e45⟩
   obtain⟨y10,rfl,e43⟩:=hP
   symm
   exact⟨_,_,_,_,_,_,_,_,_,rfl,hF42.same e43,hT42.same e43⟩
 obtain⟨x2,x3,x4,x5,x6,x7,x8,x9,x10,rfl,_⟩:=hP
 symm
 exact k H1
end
theorem all_mk {l:W.OpenLaw}{w:World}{K:W.Frag}{h:Heap}{mg:Str->Option Value}{fa f0 f1 f2 f3 f4 f5 f6 f7 f8 f9 f10 f11 f12 f13 f14 f15 f16 f17 f18 f19 f20 f21 f22 f23 f24 f25 f26 f27 f28 f29 f30 f31 f32 f33 f34 f35 f36 f37 f38 f39 f40 f41 f42 f43 C_Ways C_Keeper C_HalfError C_NoHalf C_NoText C_NoName C_TooMany C_NoCover C_NoPlace C_NoOrder C_NoJoin C_Clash C_NoPaper C_NoPlan C_NoBound C_NoSaying C_NoMore P_best Us:Addr}(X:K.In h)(G:h.Ns mainGlobals mg)(hfa:mg "law" = some (.ref fa))
  {D0 N0 D1 N1 D2 N2 D3 N3 D4 N4 D5 N5 D6 N6 D7 N7 D8 N8 D9 N9 D10 N10 D11 N11 D12 N12 D13 N13 D14 N14 D15 N15 D16 N16 D17 N17 D18 N18 D19 N19 D20 N20 D21 N21 D22 N22 D23 N23 D24 N24 D25 N25 D26 N26 D27 N27 D28 N28 D29 N29 D30 N30 D31 N31 D32 N32 D33 N33 D34 N34 D35 N35 D36 N36 D37 N37 D38 N38 D39 N39 D40 N40 D41 N41 D42 N42 D43 N43:Option Addr} {S0 S1 S2 S3 S4 S5 S6 S7 S8 S9 S10 S11 S12 S13 S14 S15 S16 S17 S18 S19 S20 S21 S22 S23 S24 S25 S26 S27 S28 S29 S30 S31 S32 S33 S34 S35 S36 S37 S38 S39 S40 S41 S42 S43:Array (Option Value)} {O0 V0 E0 P0 Q0 U0 O1 V1 E1 P1 Q1 U1 O2 V2 E2 P2 Q2 U2 O3 V3 E3 P3 Q3 U3 O4 V4 E4 P4 Q4 U4 O5 V5 E5 P5 Q5 U5 O6 V6 E6 P6 Q6 U6 O7 V7 E7 P7 Q7 U7 O8 V8 E8 P8 Q8 U8 O9 V9 E9 P9 Q9 U9 O10 V10 E10 P10 Q10 U10 O11 V11 E11 P11 Q11 U11 O12 V12 E12 P12 Q12 U12 O13 V13 E13 P13 Q13 U13 O14 V14 E14 P14 Q14 U14 O15 V15 E15 P15 Q15 U15 O16 V16 E16 P16 Q16 U16 O17 V17 E17 P17 Q17 U17 O18 V18 E18 P18 Q18 U18 O19 V19 E19 P19 Q19 U19 O20 V20 E20 P20 Q20 U20 O21 V21 E21 P21 Q21 U21 O22 V22 E22 P22 Q22 U22 O23 V23 E23 P23 Q23 U23 O24 V24 E24 P24 Q24 U24 O25 V25 E25 P25 Q25 U25 O26 V26 E26 P26 Q26 U26 O27 V27 E27 P27 Q27 U27 O28 V28 E28 P28 Q28 U28 O29 V29 E29 P29 Q29 U29 O30 V30 E30 P30 Q30 U30 O31 V31 E31 P31 Q31 U31 O32 V32 E32 P32 Q32 U32 O33 V33 E33 P33 Q33 U33 O34 V34 E34 P34 Q34 U34 O35 V35 E35 P35 Q35 U35 O36 V36 E36 P36 Q36 U36 O37 V37 E37 P37 Q37 U37 O38 V38 E38 P38 Q38 U38 O39 V39 E39 P39 Q39 U39 O40 V40 E40 P40 Q40 U40 O41 V41 E41 P41 Q41 U41 O42 V42 E42 P42 Q42 U42 O43 V43 E43 P43 Q43 U43:Value}
  (aC_Ways:W.nsIn K mainGlobals "Ways" = some (some (.ref C_Ways))) (pg_Ways:W.plainGet K C_Ways Str.empty=true) (hd_Ways:W.hasDictIn K C_Ways=true) (po_Ways:W.plainOver K C_Ways=true) (sa_Ways:W.findIn K (.ref C_Ways) "__setattr__" = some (some (.builtin "object.__setattr__"))) (mk_Ways:W.makesIn K C_Ways=true) (kc_Ways:W.keepIn K (.ref C_Ways)=true)
  (n_Ways_names:W.findIn K (.ref C_Ways) "names" = some none)
  (n_Ways_bits:W.findIn K (.ref C_Ways) "bits" = some none)
  (n_Ways_ahead:W.findIn K (.ref C_Ways) "ahead" = some none)
  (n_Ways_full:W.findIn K (.ref C_Ways) "full" = some none)
  (n_Ways_known:W.findIn K (.ref C_Ways) "known" = some none)
  (aC_Keeper:W.nsIn K mainGlobals "Keeper" = some (some (.ref C_Keeper))) (pg_Keeper:W.plainGet K C_Keeper Str.empty=true) (hd_Keeper:W.hasDictIn K C_Keeper=true) (po_Keeper:W.plainOver K C_Keeper=true) (sa_Keeper:W.findIn K (.ref C_Keeper) "__setattr__" = some (some (.builtin "object.__setattr__"))) (mk_Keeper:W.makesIn K C_Keeper=true) (kc_Keeper:W.keepIn K (.ref C_Keeper)=true)
  (n_Keeper_names:W.findIn K (.ref C_Keeper) "names" = some none)
  (n_Keeper_now:W.findIn K (.ref C_Keeper) "now" = some none)
  (n_Keeper_past:W.findIn K (.ref C_Keeper) "past" = some none)
  (n_Keeper_undone:W.findIn K (.ref C_Keeper) "undone" = some none)
  (cg:W.specialIn K (.builtin "object.__class__") "__get__" = some (some (.builtin "getset_descriptor.__get__"))) (ct:W.takesIn K (.builtin "object.__class__")=some true)
  (aX_HalfError:W.nsIn K mainGlobals "HalfError" = some (some (.ref C_HalfError)))
  (aX_NoHalf:W.nsIn K mainGlobals "NoHalf" = some (some (.ref C_NoHalf)))
  (aX_NoText:W.nsIn K mainGlobals "NoText" = some (some (.ref C_NoText)))
  (aX_NoName:W.nsIn K mainGlobals "NoName" = some (some (.ref C_NoName)))
  (aX_TooMany:W.nsIn K mainGlobals "TooMany" = some (some (.ref C_TooMany)))
  (aX_NoCover:W.nsIn K mainGlobals "NoCover" = some (some (.ref C_NoCover)))
  (aX_NoPlace:W.nsIn K mainGlobals "NoPlace" = some (some (.ref C_NoPlace)))
  (aX_NoOrder:W.nsIn K mainGlobals "NoOrder" = some (some (.ref C_NoOrder)))
  (aX_NoJoin:W.nsIn K mainGlobals "NoJoin" = some (some (.ref C_NoJoin)))
  (aX_Clash:W.nsIn K mainGlobals "Clash" = some (some (.ref C_Clash)))
  (aX_NoPaper:W.nsIn K mainGlobals "NoPaper" = some (some (.ref C_NoPaper)))
  (aX_NoPlan:W.nsIn K mainGlobals "NoPlan" = some (some (.ref C_NoPlan)))
  (aX_NoBound:W.nsIn K mainGlobals "NoBound" = some (some (.ref C_NoBound)))
  (aX_NoSaying:W.nsIn K mainGlobals "NoSaying" = some (some (.ref C_NoSaying)))
  (aX_NoMore:W.nsIn K mainGlobals "NoMore" = some (some (.ref C_NoMore)))
  (ex_HalfError:xF K C_HalfError C_HalfError true true []=true)
  (ex_NoHalf:xF K C_NoHalf C_HalfError false false ["word","number"]=true)
  (ex_NoText:xF K C_NoText C_HalfError false false ["row"]=true)
  (ex_NoName:xF K C_NoName C_HalfError false false ["name"]=true)
  (ex_TooMany:xF K C_TooMany C_HalfError false false ["word"]=true)
  (ex_NoCover:xF K C_NoCover C_HalfError false true []=true)
  (ex_NoPlace:xF K C_NoPlace C_HalfError false false ["number"]=true)
  (ex_NoOrder:xF K C_NoOrder C_HalfError false true []=true)
  (ex_NoJoin:xF K C_NoJoin C_HalfError false false ["word"]=true)
  (ex_Clash:xF K C_Clash C_HalfError false false ["way"]=true)
  (ex_NoPaper:xF K C_NoPaper C_HalfError false false ["word","row"]=true)
  (ex_NoPlan:xF K C_NoPlan C_HalfError false false ["word","path"]=true)
  (ex_NoBound:xF K C_NoBound C_HalfError false false ["word","row"]=true)
  (ex_NoSaying:xF K C_NoSaying C_HalfError false false ["number"]=true)
  (ex_NoMore:xF K C_NoMore C_HalfError false true []=true)
  (ndX:([C_HalfError,C_Clash,C_NoBound,C_NoCover,C_NoHalf,C_NoJoin,C_NoMore,C_NoName,C_NoOrder,C_NoPaper,C_NoPlace,C_NoPlan,C_NoSaying,C_NoText,C_TooMany]:List Addr).Nodup)
  (a0:W.nsIn K mainGlobals "refuse_strangers" = some (some (.ref f0))) (l0:K.lookup f0=some ⟨O0,D0,.func (W.fnOf "refuse_strangers" "refuse_strangers" (Ac B9) (Aa B9) (A4 B9) .none V0 E0 P0 N0 Q0 U0),S0⟩) (c0:W.codeIn K Q0 "refuse_strangers" = true) (k0:W.keepIn K (.ref f0)=true)
  (a1:W.nsIn K mainGlobals "behind_each" = some (some (.ref f1))) (l1:K.lookup f1=some ⟨O1,D1,.func (W.fnOf "behind_each" "behind_each" (Ac Cw) (Aa Cw) (A4 Cw) .none V1 E1 P1 N1 Q1 U1),S1⟩) (c1:W.codeIn K Q1 "behind_each" = true) (k1:W.keepIn K (.ref f1)=true)
  (a2:W.nsIn K mainGlobals "are_untold" = some (some (.ref f2))) (l2:K.lookup f2=some ⟨O2,D2,.func (W.fnOf "are_untold" "are_untold" (Ac Eb) (Aa Eb) (A4 Eb) .none V2 E2 P2 N2 Q2 U2),S2⟩) (c2:W.codeIn K Q2 "are_untold" = true) (k2:W.keepIn K (.ref f2)=true)
  (a3:W.nsIn K mainGlobals "untold_of" = some (some (.ref f3))) (l3:K.lookup f3=some ⟨O3,D3,.func (W.fnOf "untold_of" "untold_of" (Ac Et) (Aa Et) (A4 Et) .none V3 E3 P3 N3 Q3 U3),S3⟩) (c3:W.codeIn K Q3 "untold_of" = true) (k3:W.keepIn K (.ref f3)=true)
  (a4:W.nsIn K mainGlobals "untold" = some (some (.ref f4))) (l4:K.lookup f4=some ⟨O4,D4,.func (W.fnOf "untold" "untold" (Ac Ji) (Aa Ji) (A4 Ji) .none V4 E4 P4 N4 Q4 U4),S4⟩) (c4:W.codeIn K Q4 "untold" = true) (k4:W.keepIn K (.ref f4)=true)
  (a5:W.nsIn K mainGlobals "bits_of" = some (some (.ref f5))) (l5:K.lookup f5=some ⟨O5,D5,.func (W.fnOf "bits_of" "bits_of" (Ac Hj) (Aa Hj) (A4 Hj) .none V5 E5 P5 N5 Q5 U5),S5⟩) (c5:W.codeIn K Q5 "bits_of" = true) (k5:W.keepIn K (.ref f5)=true)
  (a6:W.nsIn K mainGlobals "bits_ahead" = some (some (.ref f6))) (l6:K.lookup f6=some ⟨O6,D6,.func (W.fnOf "bits_ahead" "bits_ahead" (Ac Dz) (Aa Dz) (A4 Dz) .none V6 E6 P6 N6 Q6 U6),S6⟩) (c6:W.codeIn K Q6 "bits_ahead" = true) (k6:W.keepIn K (.ref f6)=true)
  (a7:W.nsIn K mainGlobals "count" = some (some (.ref f7))) (l7:K.lookup f7=some ⟨O7,D7,.func (W.fnOf "count" "count" (Ac Lq) (Aa Lq) (A4 Lq) .none V7 E7 P7 N7 Q7 U7),S7⟩) (c7:W.codeIn K Q7 "count" = true) (k7:W.keepIn K (.ref f7)=true)
  (a8:W.nsIn K mainGlobals "is_name" = some (some (.ref f8))) (l8:K.lookup f8=some ⟨O8,D8,.func (W.fnOf "is_name" "is_name" (Ac Hi) (Aa Hi) (A4 Hi) .none V8 E8 P8 N8 Q8 U8),S8⟩) (c8:W.codeIn K Q8 "is_name" = true) (k8:W.keepIn K (.ref f8)=true)
  (a9:W.nsIn K mainGlobals "are_unlike_names" = some (some (.ref f9))) (l9:K.lookup f9=some ⟨O9,D9,.func (W.fnOf "are_unlike_names" "are_unlike_names" (Ac Bc) (Aa Bc) (A4 Bc) .none V9 E9 P9 N9 Q9 U9),S9⟩) (c9:W.codeIn K Q9 "are_unlike_names" = true) (k9:W.keepIn K (.ref f9)=true)
  (a10:W.nsIn K mainGlobals "are_tale_names" = some (some (.ref f10))) (l10:K.lookup f10=some ⟨O10,D10,.func (W.fnOf "are_tale_names" "are_tale_names" (Ac Bu) (Aa Bu) (A4 Bu) .none V10 E10 P10 N10 Q10 U10),S10⟩) (c10:W.codeIn K Q10 "are_tale_names" = true) (k10:W.keepIn K (.ref f10)=true)
  (a11:W.nsIn K mainGlobals "way_by_sayings" = some (some (.ref f11))) (l11:K.lookup f11=some ⟨O11,D11,.func (W.fnOf "way_by_sayings" "way_by_sayings" (Ac Bx) (Aa Bx) (A4 Bx) .none V11 E11 P11 N11 Q11 U11),S11⟩) (c11:W.codeIn K Q11 "way_by_sayings" = true) (k11:W.keepIn K (.ref f11)=true)
  (a12:W.nsIn K mainGlobals "comings_of" = some (some (.ref f12))) (l12:K.lookup f12=some ⟨O12,D12,.func (W.fnOf "comings_of" "comings_of" (Ac Dy) (Aa Dy) (A4 Dy) .none V12 E12 P12 N12 Q12 U12),S12⟩) (c12:W.codeIn K Q12 "comings_of" = true) (k12:W.keepIn K (.ref f12)=true)
  (a13:W.nsIn K mainGlobals "shares_of" = some (some (.ref f13))) (l13:K.lookup f13=some ⟨O13,D13,.func (W.fnOf "shares_of" "shares_of" (Ac Fd) (Aa Fd) (A4 Fd) .none V13 E13 P13 N13 Q13 U13),S13⟩) (c13:W.codeIn K Q13 "shares_of" = true) (k13:W.keepIn K (.ref f13)=true)
  (a14:W.nsIn K mainGlobals "questions" = some (some (.ref f14))) (l14:K.lookup f14=some ⟨O14,D14,.func (W.fnOf "questions" "questions" (Ac Ew) (Aa Ew) (A4 Ew) .none V14 E14 P14 N14 Q14 U14),S14⟩) (c14:W.codeIn K Q14 "questions" = true) (k14:W.keepIn K (.ref f14)=true)
  (a15:W.nsIn K mainGlobals "best_questions" = some (some (.ref f15))) (l15:K.lookup f15=some ⟨O15,D15,.func (W.fnOf "best" "best" (Ac Pn) (Aa Pn) (A4 Pn) .none V15 E15 P15 N15 Q15 U15),S15⟩) (c15:W.codeIn K Q15 "best" = true) (k15:W.keepIn K (.ref f15)=true)
  (a16:W.nsIn K mainGlobals "_law_feed" = some (some (.ref f16))) (l16:K.lookup f16=some ⟨O16,D16,.func (W.fnOf "_law_feed" "_law_feed" (Ac Ez) (Aa Ez) (A4 Ez) .none V16 E16 P16 N16 Q16 U16),S16⟩) (c16:W.codeIn K Q16 "_law_feed" = true) (k16:W.keepIn K (.ref f16)=true)
  (a17:W.nsIn K mainGlobals "_law_draw" = some (some (.ref f17))) (l17:K.lookup f17=some ⟨O17,D17,.func (W.fnOf "_law_draw" "_law_draw" (Ac Ev) (Aa Ev) (A4 Ev) .none V17 E17 P17 N17 Q17 U17),S17⟩) (c17:W.codeIn K Q17 "_law_draw" = true) (k17:W.keepIn K (.ref f17)=true)
  (a18:W.nsIn K mainGlobals "_law_names" = some (some (.ref f18))) (l18:K.lookup f18=some ⟨O18,D18,.func (W.fnOf "_law_names" "_law_names" (Ac Ea) (Aa Ea) (A4 Ea) .none V18 E18 P18 N18 Q18 U18),S18⟩) (c18:W.codeIn K Q18 "_law_names" = true) (k18:W.keepIn K (.ref f18)=true)
  (a19:W.nsIn K mainGlobals "_law_refusal" = some (some (.ref f19))) (l19:K.lookup f19=some ⟨O19,D19,.func (W.fnOf "_law_refusal" "_law_refusal" (Ac Ck) (Aa Ck) (A4 Ck) .none V19 E19 P19 N19 Q19 U19),S19⟩) (c19:W.codeIn K Q19 "_law_refusal" = true) (k19:W.keepIn K (.ref f19)=true)
  (a20:W.nsIn K mainGlobals "_law_told_by" = some (some (.ref f20))) (l20:K.lookup f20=some ⟨O20,D20,.func (W.fnOf "_law_told_by" "_law_told_by" (Ac Cp) (Aa Cp) (A4 Cp) .none V20 E20 P20 N20 Q20 U20),S20⟩) (c20:W.codeIn K Q20 "_law_told_by" = true) (k20:W.keepIn K (.ref f20)=true)
  (a21:W.nsIn K mainGlobals "_law_begun" = some (some (.ref f21))) (l21:K.lookup f21=some ⟨O21,D21,.func (W.fnOf "_law_begun" "_law_begun" (Ac Ec) (Aa Ec) (A4 Ec) .none V21 E21 P21 N21 Q21 U21),S21⟩) (c21:W.codeIn K Q21 "_law_begun" = true) (k21:W.keepIn K (.ref f21)=true)
  (a22:W.nsIn K mainGlobals "_law_first_best" = some (some (.ref f22))) (l22:K.lookup f22=some ⟨O22,D22,.func (W.fnOf "_law_first_best" "_law_first_best" (Ac Bp) (Aa Bp) (A4 Bp) .none V22 E22 P22 N22 Q22 U22),S22⟩) (c22:W.codeIn K Q22 "_law_first_best" = true) (k22:W.keepIn K (.ref f22)=true)
  (a23:W.nsIn K mainGlobals "_law_fresh" = some (some (.ref f23))) (l23:K.lookup f23=some ⟨O23,D23,.func (W.fnOf "_law_fresh" "_law_fresh" (Ac Ed) (Aa Ed) (A4 Ed) .none V23 E23 P23 N23 Q23 U23),S23⟩) (c23:W.codeIn K Q23 "_law_fresh" = true) (k23:W.keepIn K (.ref f23)=true)
  (a24:W.nsIn K mainGlobals "law" = some (some (.ref f24))) (l24:K.lookup f24=some ⟨O24,D24,.func (W.fnOf "law" "law" (Ac Qj) (Aa Qj) (A4 Qj) .none V24 E24 P24 N24 Q24 U24),S24⟩) (c24:W.codeIn K Q24 "law" = true) (k24:W.keepIn K (.ref f24)=true)
  (a25:W.findIn K (.ref C_Ways) "__init__" = some (some (.ref f25))) (i25:W.isFn K (.ref f25)=true) (l25:K.lookup f25=some ⟨O25,D25,.func (W.fnOf "__init__" "Ways.__init__" (Ac Fc) (Aa Fc) (A4 Fc) .none V25 E25 P25 N25 Q25 U25),S25⟩) (c25:W.codeIn K Q25 "Ways.__init__" = true) (k25:W.keepIn K (.ref f25)=true)
  (a26:W.findIn K (.ref C_Ways) "free_names" = some (some (.ref f26))) (i26:W.isFn K (.ref f26)=true) (l26:K.lookup f26=some ⟨O26,D26,.func (W.fnOf "free_names" "Ways.free_names" (Ac Bm) (Aa Bm) (A4 Bm) .none V26 E26 P26 N26 Q26 U26),S26⟩) (c26:W.codeIn K Q26 "Ways.free_names" = true) (k26:W.keepIn K (.ref f26)=true)
  (a27:W.findIn K (.ref C_Ways) "ways_on" = some (some (.ref f27))) (i27:W.isFn K (.ref f27)=true) (l27:K.lookup f27=some ⟨O27,D27,.func (W.fnOf "ways_on" "Ways.ways_on" (Ac C4) (Aa C4) (A4 C4) .none V27 E27 P27 N27 Q27 U27),S27⟩) (c27:W.codeIn K Q27 "Ways.ways_on" = true) (k27:W.keepIn K (.ref f27)=true)
  (a28:W.findIn K (.ref C_Keeper) "__init__" = some (some (.ref f28))) (i28:W.isFn K (.ref f28)=true) (l28:K.lookup f28=some ⟨O28,D28,.func (W.fnOf "__init__" "Keeper.__init__" (Ac Cb) (Aa Cb) (A4 Cb) .none V28 E28 P28 N28 Q28 U28),S28⟩) (c28:W.codeIn K Q28 "Keeper.__init__" = true) (k28:W.keepIn K (.ref f28)=true)
  (a29:W.findIn K (.ref C_Keeper) "say" = some (some (.ref f29))) (i29:W.isFn K (.ref f29)=true) (l29:K.lookup f29=some ⟨O29,D29,.func (W.fnOf "say" "Keeper.say" (Ac Gn) (Aa Gn) (A4 Gn) .none V29 E29 P29 N29 Q29 U29),S29⟩) (c29:W.codeIn K Q29 "Keeper.say" = true) (k29:W.keepIn K (.ref f29)=true)
  (a30:W.findIn K (.ref C_Keeper) "take" = some (some (.ref f30))) (i30:W.isFn K (.ref f30)=true) (l30:K.lookup f30=some ⟨O30,D30,.func (W.fnOf "take" "Keeper.take" (Ac Fx) (Aa Fx) (A4 Fx) .none V30 E30 P30 N30 Q30 U30),S30⟩) (c30:W.codeIn K Q30 "Keeper.take" = true) (k30:W.keepIn K (.ref f30)=true)
  (a31:W.findIn K (.ref C_Keeper) "undo" = some (some (.ref f31))) (i31:W.isFn K (.ref f31)=true) (l31:K.lookup f31=some ⟨O31,D31,.func (W.fnOf "undo" "Keeper.undo" (Ac De) (Aa De) (A4 De) .none V31 E31 P31 N31 Q31 U31),S31⟩) (c31:W.codeIn K Q31 "Keeper.undo" = true) (k31:W.keepIn K (.ref f31)=true)
  (a32:W.findIn K (.ref C_Keeper) "redo" = some (some (.ref f32))) (i32:W.isFn K (.ref f32)=true) (l32:K.lookup f32=some ⟨O32,D32,.func (W.fnOf "redo" "Keeper.redo" (Ac Dc) (Aa Dc) (A4 Dc) .none V32 E32 P32 N32 Q32 U32),S32⟩) (c32:W.codeIn K Q32 "Keeper.redo" = true) (k32:W.keepIn K (.ref f32)=true)
  (a33:W.findIn K (.ref C_Keeper) "numbers" = some (some (.ref f33))) (i33:W.isFn K (.ref f33)=true) (l33:K.lookup f33=some ⟨O33,D33,.func (W.fnOf "numbers" "Keeper.numbers" (Ac Bw) (Aa Bw) (A4 Bw) .none V33 E33 P33 N33 Q33 U33),S33⟩) (c33:W.codeIn K Q33 "Keeper.numbers" = true) (k33:W.keepIn K (.ref f33)=true)
  (a34:W.findIn K (.ref C_Keeper) "saying" = some (some (.ref f34))) (i34:W.isFn K (.ref f34)=true) (l34:K.lookup f34=some ⟨O34,D34,.func (W.fnOf "saying" "Keeper.saying" (Ac C7) (Aa C7) (A4 C7) .none V34 E34 P34 N34 Q34 U34),S34⟩) (c34:W.codeIn K Q34 "Keeper.saying" = true) (k34:W.keepIn K (.ref f34)=true)
  (a35:W.findIn K (.ref C_Keeper) "half" = some (some (.ref f35))) (i35:W.isFn K (.ref f35)=true) (l35:K.lookup f35=some ⟨O35,D35,.func (W.fnOf "half" "Keeper.half" (Ac Cv) (Aa Cv) (A4 Cv) .none V35 E35 P35 N35 Q35 U35),S35⟩) (c35:W.codeIn K Q35 "Keeper.half" = true) (k35:W.keepIn K (.ref f35)=true)
  (a36:W.findIn K (.ref C_Keeper) "many" = some (some (.ref f36))) (i36:W.isFn K (.ref f36)=true) (l36:K.lookup f36=some ⟨O36,D36,.func (W.fnOf "many" "Keeper.many" (Ac Dd) (Aa Dd) (A4 Dd) .none V36 E36 P36 N36 Q36 U36),S36⟩) (c36:W.codeIn K Q36 "Keeper.many" = true) (k36:W.keepIn K (.ref f36)=true)
  (a37:W.findIn K (.ref C_Keeper) "best" = some (some (.ref f37))) (i37:W.isFn K (.ref f37)=true) (l37:K.lookup f37=some ⟨O37,D37,.func (W.fnOf "best" "Keeper.best" (Ac Cy) (Aa Cy) (A4 Cy) .none V37 E37 P37 N37 Q37 U37),S37⟩) (c37:W.codeIn K Q37 "Keeper.best" = true) (k37:W.keepIn K (.ref f37)=true)
  (a38:W.findIn K (.ref C_Keeper) "knows" = some (some (.ref f38))) (i38:W.isFn K (.ref f38)=true) (l38:K.lookup f38=some ⟨O38,D38,.func (W.fnOf "knows" "Keeper.knows" (Ac Co) (Aa Co) (A4 Co) .none V38 E38 P38 N38 Q38 U38),S38⟩) (c38:W.codeIn K Q38 "Keeper.knows" = true) (k38:W.keepIn K (.ref f38)=true)
  (a39:W.findIn K (.ref C_Keeper) "way_kept" = some (some (.ref f39))) (i39:W.isFn K (.ref f39)=true) (l39:K.lookup f39=some ⟨O39,D39,.func (W.fnOf "way_kept" "Keeper.way_kept" (Ac Bn) (Aa Bn) (A4 Bn) .none V39 E39 P39 N39 Q39 U39),S39⟩) (c39:W.codeIn K Q39 "Keeper.way_kept" = true) (k39:W.keepIn K (.ref f39)=true)
  (a40:W.findIn K (.ref C_Keeper) "lead" = some (some (.ref f40))) (i40:W.isFn K (.ref f40)=true) (l40:K.lookup f40=some ⟨O40,D40,.func (W.fnOf "lead" "Keeper.lead" (Ac Cz) (Aa Cz) (A4 Cz) .none V40 E40 P40 N40 Q40 U40),S40⟩) (c40:W.codeIn K Q40 "Keeper.lead" = true) (k40:W.keepIn K (.ref f40)=true)
  (a41:W.findIn K (.ref C_NoHalf) "__init__" = some (some (.ref f41))) (i41:W.isFn K (.ref f41)=true) (l41:K.lookup f41=some ⟨O41,D41,.func (W.fnOf "__init__" "NoHalf.__init__" (Ac Df) (Aa Df) (A4 Df) .none V41 E41 P41 N41 Q41 U41),S41⟩) (c41:W.codeIn K Q41 "NoHalf.__init__" = true) (k41:W.keepIn K (.ref f41)=true)
  (a42:W.findIn K (.ref C_NoName) "__init__" = some (some (.ref f42))) (i42:W.isFn K (.ref f42)=true) (l42:K.lookup f42=some ⟨O42,D42,.func (W.fnOf "__init__" "NoName.__init__" (Ac Db) (Aa Db) (A4 Db) .none V42 E42 P42 N42 Q42 U42),S42⟩) (c42:W.codeIn K Q42 "NoName.__init__" = true) (k42:W.keepIn K (.ref f42)=true)
  (a43:W.findIn K (.ref C_NoSaying) "__init__" = some (some (.ref f43))) (i43:W.isFn K (.ref f43)=true) (l43:K.lookup f43=some ⟨O43,D43,.func (W.fnOf "__init__" "NoSaying.__init__" (Ac C8) (Aa C8) (A4 C8) .none V43 E43 P43 N43 Q43 U43),S43⟩) (c43:W.codeIn K Q43 "NoSaying.__init__" = true) (k43:W.keepIn K (.ref f43)=true)
  (lc:Q15 = .ref Us) (lh:W.codeHdIn K Us P_best=true) (lg:mainGlobals≠P_best)
  {t0:Tok} (g0:W.nsIn K mainGlobals "MOST_NAMES" = some (some (.int 10 t0)))
  {t1:Tok} (g1:W.nsIn K mainGlobals "MOST_SIGNS" = some (some (.int 8 t1)))
  {t2:Tok} (g2:W.nsIn K mainGlobals "SMALL_LETTERS" = some (some (.str "abcdefghijklmnopqrstuvwxyz" t2)))
  (z0:W.nsIn K mainGlobals "ValueError" = some none)
  (z1:W.nsIn K mainGlobals "all" = some none)
  (z2:W.nsIn K mainGlobals "dict" = some none)
  (z3:W.nsIn K mainGlobals "enumerate" = some none)
  (z4:W.nsIn K mainGlobals "int" = some none)
  (z5:W.nsIn K mainGlobals "isinstance" = some none)
  (z6:W.nsIn K mainGlobals "len" = some none)
  (z7:W.nsIn K mainGlobals "list" = some none)
  (z8:W.nsIn K mainGlobals "max" = some none)
  (z9:W.nsIn K mainGlobals "min" = some none)
  (z10:W.nsIn K mainGlobals "range" = some none)
  (z11:W.nsIn K mainGlobals "repr" = some none)
  (z12:W.nsIn K mainGlobals "reversed" = some none)
  (z13:W.nsIn K mainGlobals "set" = some none)
  (z14:W.nsIn K mainGlobals "str" = some none)
  (z15:W.nsIn K mainGlobals "sum" = some none)
  (z16:W.nsIn K mainGlobals "tuple" = some none)
  : ∃ fd:FuncData,(∃ c,W.codeHdIn K c P_best=true)/\(∀(s:Shared) (v:Value),BindsTo s fd ⟨[v],[]⟩ [("_law_script",v)])/\∀ base:Heap,K.In base->base.Ns mainGlobals mg->base.BuiltinsAt mg P_best->FnOk l.prog w K mg base CX0 20 fa fd ["_law_script"] (spLaw P_best K):=by
 have e:=hfa.symm.trans (A0A X G a24)
 cases e;have T:Gg mg:=⟨⟨_,A0A X G g0,⟨_,rfl⟩⟩,⟨_,A0A X G g1,⟨_,rfl⟩⟩,⟨_,A0A X G g2,⟨_,rfl⟩⟩,A13 X G z0,A13 X G z1,A13 X G z2,A13 X G z3,A13 X G z4,A13 X G z5,A13 X G z6,A13 X G z7,A13 X G z8,A13 X G z9,A13 X G z10,A13 X G z11,A13 X G z12,A13 X G z13,A13 X G z14,A13 X G z15,A13 X G z16⟩;have F0:=Au (st:=B9) l0 c0 k0;have b0:Binds K _ ["half","asked"] []:=Hb F0 λ_ _ _ _ _ _ _ _=>rfl;have F1:=Au (st:=Cw) l1 c1 k1;have b1:Binds K _ ["half"] []:=Do F1 λ_ _ _ _ _ _ _=>rfl;have F2:=Au (st:=Eb) l2 c2 k2;have b2:Binds K _ ["reach","one","other"] []:=M5 F2 λ_ _ _ _ _ _ _ _ _=>rfl;have F3:=Au (st:=Et) l3 c3 k3;have b3:Binds K _ ["reach"] []:=Do F3 λ_ _ _ _ _ _ _=>rfl;have F4:=Au (st:=Ji) l4 c4 k4;have b4:Binds K _ ["half"] []:=Do F4 λ_ _ _ _ _ _ _=>rfl;have F5:=Au (st:=Hj) l5 c5 k5;have b5:Binds K _ ["names"] []:=Do F5 λ_ _ _ _ _ _ _=>rfl;have F6:=Au (st:=Dz) l6 c6 k6;have b6:Binds K _ ["half","bits"] []:=Hb F6 λ_ _ _ _ _ _ _ _=>rfl;have F7:=Au (st:=Lq) l7 c7 k7;have b7:Binds K _ ["half"] []:=Do F7 λ_ _ _ _ _ _ _=>rfl;have F8:=Au (st:=Hi) l8 c8 k8;have b8:Binds K _ ["thing"] []:=Do F8 λ_ _ _ _ _ _ _=>rfl;have F9:=Au (st:=Bc) l9 c9 k9;have b9:Binds K _ ["thing"] []:=Do F9 λ_ _ _ _ _ _ _=>rfl;have F10:=Au (st:=Bu) l10 c10 k10;have b10:Binds K _ ["thing"] []:=Do F10 λ_ _ _ _ _ _ _=>rfl;have F11:=Au (st:=Bx) l11 c11 k11;have b11:Binds K _ ["sayings","start","goal"] []:=M5 F11 λ_ _ _ _ _ _ _ _ _=>rfl;have F12:=Au (st:=Dy) l12 c12 k12;have b12:Binds K _ ["ways"] []:=Do F12 λ_ _ _ _ _ _ _=>rfl;have F13:=Au (st:=Fd) l13 c13 k13;have b13:Binds K _ ["half"] []:=Do F13 λ_ _ _ _ _ _ _=>rfl;have F14:=Au (st:=Ew) l14 c14 k14;have b14:Binds K _ ["half"] []:=Do F14 λ_ _ _ _ _ _ _=>rfl;have F15:=Au (st:=Pn) l15 c15 k15;have b15:Binds K _ ["half"] []:=Do F15 λ_ _ _ _ _ _ _=>rfl;have F16:=Au (st:=Ez) l16 c16 k16;have b16:Binds K _ ["_law_script"] []:=Do F16 λ_ _ _ _ _ _ _=>rfl;have F17:=Au (st:=Ev) l17 c17 k17;have b17:Binds K _ ["_law_feed_here","_law_many"] []:=Hb F17 λ_ _ _ _ _ _ _ _=>rfl;have F18:=Au (st:=Ea) l18 c18 k18;have b18:Binds K _ ["_law_feed_here","_law_many"] []:=Hb F18 λ_ _ _ _ _ _ _ _=>rfl;have F19:=Au (st:=Ck) l19 c19 k19;have b19:Binds K _ ["_law_e"] []:=Do F19 λ_ _ _ _ _ _ _=>rfl;have F20:=Au (st:=Cp) l20 c20 k20;have b20:Binds K _ ["_law_keeper","_law_word","_law_one","_law_other"] []:=aD5 F20 λ_ _ _ _ _ _ _ _ _ _=>rfl;have F21:=Au (st:=Ec) l21 c21 k21;have b21:Binds K _ ["_law_thing"] []:=Do F21 λ_ _ _ _ _ _ _=>rfl;have F22:=Au (st:=Bp) l22 c22 k22;have b22:Binds K _ ["_law_keeper","_law_names_here"] []:=Hb F22 λ_ _ _ _ _ _ _ _=>rfl;have F23:=Au (st:=Ed) l23 c23 k23;have b23:Binds K _ ["_law_keeper","_law_names_here","_law_way"] []:=M5 F23 λ_ _ _ _ _ _ _ _ _=>rfl;have F24:=Au (st:=Qj) l24 c24 k24;have F25:=Au (st:=Fc) l25 c25 k25;have b25:Binds K _ ["self","half"] []:=Hb F25 λ_ _ _ _ _ _ _ _=>rfl;have F26:=Au (st:=Bm) l26 c26 k26;have b26:Binds K _ ["self","left"] []:=Hb F26 λ_ _ _ _ _ _ _ _=>rfl;have F27:=Au (st:=C4) l27 c27 k27;have b27:Binds K _ ["self","left"] []:=Hb F27 λ_ _ _ _ _ _ _ _=>rfl;have F28:=Au (st:=Cb) l28 c28 k28;have b28:Binds K _ ["self","names"] []:=Hb F28 λ_ _ _ _ _ _ _ _=>rfl;have F29:=Au (st:=Gn) l29 c29 k29;have b29:Binds K _ ["self","name","other"] []:=M5 F29 λ_ _ _ _ _ _ _ _ _=>rfl;have F30:=Au (st:=Fx) l30 c30 k30;have b30:Binds K _ ["self","number"] []:=Hb F30 λ_ _ _ _ _ _ _ _=>rfl;have F31:=Au (st:=De) l31 c31 k31;have b31:Binds K _ ["self"] []:=Do F31 λ_ _ _ _ _ _ _=>rfl;have F32:=Au (st:=Dc) l32 c32 k32;have b32:Binds K _ ["self"] []:=Do F32 λ_ _ _ _ _ _ _=>rfl;have F33:=Au (st:=Bw) l33 c33 k33;have b33:Binds K _ ["self"] []:=Do F33 λ_ _ _ _ _ _ _=>rfl;have F34:=Au (st:=C7) l34 c34 k34;have b34:Binds K _ ["self","number"] []:=Hb F34 λ_ _ _ _ _ _ _ _=>rfl;have F35:=Au (st:=Cv) l35 c35 k35;have b35:Binds K _ ["self"] []:=Do F35 λ_ _ _ _ _ _ _=>rfl;have F36:=Au (st:=Dd) l36 c36 k36;have b36:Binds K _ ["self"] []:=Do F36 λ_ _ _ _ _ _ _=>rfl;have F37:=Au (st:=Cy) l37 c37 k37;have b37:Binds K _ ["self"] []:=Do F37 λ_ _ _ _ _ _ _=>rfl;have F38:=Au (st:=Co) l38 c38 k38;have b38:Binds K _ ["self","name","other"] []:=M5 F38 λ_ _ _ _ _ _ _ _ _=>rfl;have F39:=Au (st:=Bn) l39 c39 k39;have b39:Binds K _ ["self","name","other"] []:=M5 F39 λ_ _ _ _ _ _ _ _ _=>rfl;have F40:=Au (st:=Cz) l40 c40 k40;have b40:Binds K _ ["self","name","other"] []:=M5 F40 λ_ _ _ _ _ _ _ _ _=>rfl;have F41:=Au (st:=Df) l41 c41 k41;have b41:Binds K _ ["self","word","number"] []:=M5 F41 λ_ _ _ _ _ _ _ _ _=>rfl;have F42:=Au (st:=Db) l42 c42 k42;have b42:Binds K _ ["self","name"] []:=Hb F42 λ_ _ _ _ _ _ _ _=>rfl;have F43:=Au (st:=C8) l43 c43 k43;have b43:Binds K _ ["self","number"] []:=Hb F43 λ_ _ _ _ _ _ _ _=>rfl;have k_Ways:Go K C_Ways:=⟨⟨pg_Ways,hd_Ways,po_Ways,sa_Ways⟩,n_Ways_names,n_Ways_bits,n_Ways_ahead,n_Ways_full,n_Ways_known⟩;have k_Keeper:Av K C_Keeper:=⟨⟨pg_Keeper,hd_Keeper,po_Keeper,sa_Keeper⟩,n_Keeper_names,n_Keeper_now,n_Keeper_past,n_Keeper_undone⟩;have x_HalfError:Ap K mg C_HalfError C_HalfError:=⟨xF.xc ex_HalfError cg ct,A0A X G aX_HalfError,⟨xF.xc ex_HalfError cg ct,xF.no ex_HalfError,xF.kp ex_HalfError,A0A X G aX_HalfError⟩⟩;have x_NoHalf:Hg K mg C_NoHalf C_HalfError:=⟨xF.xc ex_NoHalf cg ct,A0A X G aX_NoHalf,xF.mr ex_NoHalf,xF.n ex_NoHalf ∅,xF.n ex_NoHalf ∅⟩;have x_NoText:Lh K mg C_NoText C_HalfError:=⟨xF.xc ex_NoText cg ct,A0A X G aX_NoText,xF.mr ex_NoText,xF.n ex_NoText ∅⟩;have x_NoName:Bv K mg C_NoName C_HalfError:=⟨xF.xc ex_NoName cg ct,A0A X G aX_NoName,xF.mr ex_NoName,xF.n ex_NoName ∅⟩;have x_TooMany:K7 K mg C_TooMany C_HalfError:=⟨xF.xc ex_TooMany cg ct,A0A X G aX_TooMany,xF.mr ex_TooMany,xF.n ex_TooMany ∅⟩;have x_NoCover:Jz K mg C_NoCover C_HalfError:=⟨xF.xc ex_NoCover cg ct,A0A X G aX_NoCover,xF.mr ex_NoCover,⟨xF.xc ex_NoCover cg ct,xF.no ex_NoCover,xF.kp ex_NoCover,A0A X G aX_NoCover⟩⟩;have x_NoPlace:Kb K mg C_NoPlace C_HalfError:=⟨xF.xc ex_NoPlace cg ct,A0A X G aX_NoPlace,xF.mr ex_NoPlace,xF.n ex_NoPlace ∅⟩;have x_NoOrder:Ke K mg C_NoOrder C_HalfError:=⟨xF.xc ex_NoOrder cg ct,A0A X G aX_NoOrder,xF.mr ex_NoOrder,⟨xF.xc ex_NoOrder cg ct,xF.no ex_NoOrder,xF.kp ex_NoOrder,A0A X G aX_NoOrder⟩⟩;have x_NoJoin:Lg K mg C_NoJoin C_HalfError:=⟨xF.xc ex_NoJoin cg ct,A0A X G aX_NoJoin,xF.mr ex_NoJoin,xF.n ex_NoJoin ∅⟩;have x_Clash:Np K mg C_Clash C_HalfError:=⟨xF.xc ex_Clash cg ct,A0A X G aX_Clash,xF.mr ex_Clash,xF.n ex_Clash ∅⟩;have x_NoPaper:Jw K mg C_NoPaper C_HalfError:=⟨xF.xc ex_NoPaper cg ct,A0A X G aX_NoPaper,xF.mr ex_NoPaper,xF.n ex_NoPaper ∅,xF.n ex_NoPaper ∅⟩;have x_NoPlan:Lc K mg C_NoPlan C_HalfError:=⟨xF.xc ex_NoPlan cg ct,A0A X G aX_NoPlan,xF.mr ex_NoPlan,xF.n ex_NoPlan ∅,xF.n ex_NoPlan ∅⟩;have x_NoBound:Kg K mg C_NoBound C_HalfError:=⟨xF.xc ex_NoBound cg ct,A0A X G aX_NoBound,xF.mr ex_NoBound,xF.n ex_NoBound ∅,xF.n ex_NoBound ∅⟩;have x_NoSaying:Ef K mg C_NoSaying C_HalfError:=⟨xF.xc ex_NoSaying cg ct,A0A X G aX_NoSaying,xF.mr ex_NoSaying,xF.n ex_NoSaying ∅⟩;have x_NoMore:G0 K mg C_NoMore C_HalfError:=⟨xF.xc ex_NoMore cg ct,A0A X G aX_NoMore,xF.mr ex_NoMore,⟨xF.xc ex_NoMore cg ct,xF.no ex_NoMore,xF.kp ex_NoMore,A0A X G aX_NoMore⟩⟩;refine⟨W.fnOf "law" "law" (Ac Qj) (Aa Qj) (A4 Qj) .none V24 E24 P24 N24 Q24 U24,⟨Us,lh⟩,λs v=>.of_eq rfl,λbase KB _ hBi=>?_⟩;have lb:aQ5 K mg base Us P_best:=⟨W.codeHd_of_K KB lh,hBi,lg⟩;have Bi:Fnd l.prog w K mg base 1 "behind_each" ["half"] (Dn K):=⟨_,_,Ox F1 T,A0A X G a1,k1,b1⟩;have Ir:Fnd l.prog w K mg base 1 "are_untold" ["reach","one","other"] (Ho K):=⟨_,_,Qp F2 T,A0A X G a2,k2,b2⟩;have Mw:Fnd l.prog w K mg base 1 "bits_of" ["names"] (Lx K):=⟨_,_,Xe F5 T,A0A X G a5,k5,b5⟩;have Nz:Fnd l.prog w K mg base 1 "is_name" ["thing"] (Lb K):=⟨_,_,Xm F8 T,A0A X G a8,k8,b8⟩;have Fn:Fnd l.prog w K mg base 1 "way_by_sayings" ["sayings","start","goal"] (Fe K):=⟨_,_,Lz F11 T,A0A X G a11,k11,b11⟩;have Jx:Fnd l.prog w K mg base 1 "_law_feed" ["_law_script"] (Iq K):=⟨_,_,Sd F16 T,A0A X G a16,k16,b16⟩;have B5:Fnd l.prog w K mg base 1 "_law_draw" ["_law_feed_here","_law_many"] (Gk K):=⟨_,_,Tg F17 T,A0A X G a17,k17,b17⟩;have h__law_refusal:aM2 l.prog w K mg base 1 "_law_refusal" ["_law_e"] (G5 C_NoName C_NoSaying C_NoMore K):=⟨_,_,Ma F19 T x_HalfError x_NoHalf x_NoText x_NoName x_TooMany x_NoCover x_NoPlace x_NoOrder x_NoJoin x_Clash x_NoPaper x_NoPlan x_NoBound x_NoSaying x_NoMore ndX,A0A X G a19,k19,b19⟩;have Aj:Mtd l.prog w K mg base 1 C_Ways "free_names" ["self","left"] (B8 C_Ways K):=⟨_,_,Km F26 T k_Ways,⟨a26,i26,k26⟩,b26⟩;have Ja:Tr l.prog w K mg base 1 C_Keeper "say" ["self","name","other"] (Jp C_Keeper C_NoName C_Clash C_TooMany K):=⟨_,_,FnOk.void λ_ _ _ _ h=>h,⟨a29,i29,k29⟩,b29⟩;have Hr:Tr l.prog w K mg base 1 C_Keeper "take" ["self","number"] (J3 C_Keeper C_NoSaying K):=⟨_,_,FnOk.void λ_ _ _ _ h=>h,⟨a30,i30,k30⟩,b30⟩;have Hz:Tr l.prog w K mg base 1 C_Keeper "undo" ["self"] (El C_Keeper C_NoMore K):=⟨_,_,Nj F31 T k_Keeper x_HalfError x_NoName x_NoMore,⟨a31,i31,k31⟩,b31⟩;have Ih:Tr l.prog w K mg base 1 C_Keeper "redo" ["self"] (G9 C_Keeper C_NoMore K):=⟨_,_,Nb F32 T k_Keeper x_HalfError x_NoName x_NoMore,⟨a32,i32,k32⟩,b32⟩;have Fp:Mtd l.prog w K mg base 1 C_Keeper "numbers" ["self"] (Ey C_Keeper K):=⟨_,_,Lv F33 T k_Keeper,⟨a33,i33,k33⟩,b33⟩;have Af:Mtd l.prog w K mg base 1 C_Keeper "half" ["self"] (Bk C_Keeper K):=⟨_,_,Oq F35 T k_Keeper,⟨a35,i35,k35⟩,b35⟩;have Ik:Mkx l.prog w K mg base 1 C_NoHalf "NoHalf" ["self","word","number"] (spX C_NoHalf ["word","number"]):=⟨_,_,Oo F41 T x_HalfError x_NoHalf,x_NoHalf.xc,a41,i41,xF.kp ex_NoHalf,A0A X G aX_NoHalf,b41⟩;have Ia:Mkx l.prog w K mg base 1 C_NoName "NoName" ["self","name"] (spX C_NoName ["name"]):=⟨_,_,Pc F42 T x_HalfError x_NoName,x_NoName.xc,a42,i42,xF.kp ex_NoName,A0A X G aX_NoName,b42⟩;have Ga:Mkx l.prog w K mg base 1 C_NoSaying "NoSaying" ["self","number"] (spX C_NoSaying ["number"]):=⟨_,_,Mb F43 T x_HalfError x_NoSaying,x_NoSaying.xc,a43,i43,xF.kp ex_NoSaying,A0A X G aX_NoSaying,b43⟩;have K1:Fnd l.prog w K mg base 2 "untold_of" ["reach"] (J7 K):=⟨_,_,Ry F3 T Ir,A0A X G a3,k3,b3⟩;have J8:Fnd l.prog w K mg base 2 "bits_ahead" ["half","bits"] (Hy K):=⟨_,_,Qk F6 T Bi,A0A X G a6,k6,b6⟩;have Ei:Fnd l.prog w K mg base 2 "are_unlike_names" ["thing"] (Dw K):=⟨_,_,Ki F9 T Nz,A0A X G a9,k9,b9⟩;have J1:Fnd l.prog w K mg base 2 "comings_of" ["ways"] (Hl C_Ways K):=⟨_,_,R4 F12 T k_Ways Aj,A0A X G a12,k12,b12⟩;have Gp:Fnd l.prog w K mg base 2 "_law_names" ["_law_feed_here","_law_many"] (Ic K):=⟨_,_,Qi F18 T B5,A0A X G a18,k18,b18⟩;have Fb:Mtd l.prog w K mg base 2 C_Keeper "way_kept" ["self","name","other"] (Es C_Keeper K):=⟨_,_,Kw F39 T k_Keeper Fn Af,⟨a39,i39,k39⟩,b39⟩;have Bb:aL7 l.prog w K mg base 3 "refuse_strangers" ["half","asked"] (C6 C_NoName K):=⟨_,_,Jn F0 T x_HalfError x_NoName Ia,A0A X G a0,k0,b0⟩;have Qs:Fnd l.prog w K mg base 3 "untold" ["half"] (Oc K):=⟨_,_,Yi F4 T Bi K1,A0A X G a4,k4,b4⟩;have Bt:Fnd l.prog w K mg base 3 "are_tale_names" ["thing"] (Dg K):=⟨_,_,Lk F10 T Ei,A0A X G a10,k10,b10⟩;have Fa:Mkd l.prog w K mg base 3 C_Ways "Ways" ["self","half"] (Gw C_Ways K):=⟨_,_,T8 F25 T k_Ways Mw J8,⟨mk_Ways,a25,i25,kc_Ways⟩,A0A X G aC_Ways,b25⟩;have G6:Tr l.prog w K mg base 3 C_Keeper "saying" ["self","number"] (Ex C_Keeper C_NoSaying K):=⟨_,_,Ly F34 T k_Keeper x_HalfError x_NoName x_NoSaying Ga,⟨a34,i34,k34⟩,b34⟩;have Ht:aP5 l.prog w K mg base 4 C_Keeper "Keeper" ["self","names"] (G3 C_Keeper C_NoHalf K):=⟨_,_,Nm F28 T k_Keeper x_HalfError x_NoHalf x_NoName Bt Ik,⟨mk_Keeper,a28,i28,kc_Keeper⟩,A0A X G aC_Keeper,b28⟩;have Ib:Mkd l.prog w K mg base 4 C_Keeper "Keeper" ["self","names"] (Gz C_Keeper K):=⟨_,_,Ol F28 T k_Keeper Bt,⟨mk_Keeper,a28,i28,kc_Keeper⟩,A0A X G aC_Keeper,b28⟩;have Gy:Tr l.prog w K mg base 4 C_Keeper "knows" ["self","name","other"] (Fo C_Keeper C_NoName K):=⟨_,_,Mc F38 T k_Keeper x_HalfError x_NoName Bi Af Bb,⟨a38,i38,k38⟩,b38⟩;have Ie:Tr l.prog w K mg base 4 C_Keeper "lead" ["self","name","other"] (G2 C_Keeper C_NoName K):=⟨_,_,Mv F40 T k_Keeper x_HalfError x_NoName Af Fb Bb,⟨a40,i40,k40⟩,b40⟩;have Cn:Fnd l.prog w K mg base 5 "_law_told_by" ["_law_keeper","_law_word","_law_one","_law_other"] (Em C_Keeper K):=⟨_,_,Nd F20 T k_Keeper x_HalfError x_NoName x_NoSaying x_NoMore ndX Ja Hr Hz Ih G6 Gy Ie h__law_refusal,A0A X G a20,k20,b20⟩;have Iv:Fnd l.prog w K mg base 6 "_law_begun" ["_law_thing"] (Ii K):=⟨_,_,R3 F21 T k_Keeper x_HalfError x_NoHalf x_NoText x_NoName x_TooMany x_NoCover x_NoPlace x_NoOrder x_NoJoin x_Clash x_NoPaper x_NoPlan x_NoBound x_NoSaying x_NoMore ndX Ht,A0A X G a21,k21,b21⟩;have Bj:Mtd l.prog w K mg base 13 C_Ways "ways_on" ["self","left"] (En C_Ways K):=⟨_,_,Mq F27 T k_Ways Aj ⟨a27,i27,k27⟩ b27,⟨a27,i27,k27⟩,b27⟩;have Uv:Fnd l.prog w K mg base 14 "count" ["half"] (R9 K):=⟨_,_,af8 F7 T k_Ways Fa Bj,A0A X G a7,k7,b7⟩;have K5:Fnd l.prog w K mg base 14 "shares_of" ["half"] (J6 K):=⟨_,_,Tf F13 T k_Ways J1 Fa Aj Bj,A0A X G a13,k13,b13⟩;have Kh:Fnd l.prog w K mg base 15 "questions" ["half"] (Jb K):=⟨_,_,Tb F14 T Qs K5,A0A X G a14,k14,b14⟩;have Hw:Mtd l.prog w K mg base 15 C_Keeper "many" ["self"] (Fg C_Keeper K):=⟨_,_,On F36 T k_Keeper Uv Af,⟨a36,i36,k36⟩,b36⟩;have Yu:Fnd l.prog w K mg base 16 "best_questions" ["half"] (Uy P_best K):=⟨_,_,ap3 F15 T lb lc Kh,A0A X G a15,k15,b15⟩;have Ij:Mtd l.prog w K mg base 17 C_Keeper "best" ["self"] (Ha P_best C_Keeper K):=⟨_,_,Oy F37 T k_Keeper Yu Af,⟨a37,i37,k37⟩,b37⟩;have Ff:Fnd l.prog w K mg base 18 "_law_first_best" ["_law_keeper","_law_names_here"] (Ej P_best C_Keeper K):=⟨_,_,Kn F22 T k_Keeper Ij,A0A X G a22,k22,b22⟩;have Gs:Fnd l.prog w K mg base 19 "_law_fresh" ["_law_keeper","_law_names_here","_law_way"] (Hu P_best C_Keeper K):=⟨_,_,Qt F23 T k_Keeper Cn Ff Fp Af Hw,A0A X G a23,k23,b23⟩;exact aH0 F24 T k_Keeper Jx B5 Gp Iv Gs Ib
theorem walk {l:W.OpenLaw}{q:Program}{loose:List Str}{XP:(Str->Option Value)->Heap->Prop}{YP:World->Heap->Prop}{d:DefRec}{K:Params->W.Frag}{P_best:Addr}(hn:l.most=some 63)(hdf:d.params.defaults=[])
  (hY:∀(w:World) (h:Heap),YP w h->(K w.params).In h) (hYT:∀(w:World) (h:Heap),YP w h->h.get? P_best=some (W.tabObj #[])) (hKP:∀(w:World),(K w.params).lookup P_best=none)
  (F:∀(w:World) (mg:Str->Option Value) (fa:Addr) (h:Heap),(K w.params).In h->h.Ns mainGlobals mg->mg d.name=some (.ref fa) ->
   ∃ fd:FuncData,(∃ c,W.codeHdIn (K w.params) c P_best=true)/\(∀(s:Shared) (u:Value),BindsTo s fd ⟨[u],[]⟩ [("_law_script",u)])/\∀ base:Heap,(K w.params).In base->base.Ns mainGlobals mg->base.BuiltinsAt mg P_best->FnOk l.prog w (K w.params) mg base CX0 20 fa fd ["_law_script"] (spLaw P_best (K w.params))) :
  W.WalkO q loose XP YP l.row.toRowW d [] (λf vs=>PySem.call f vs):=
 L2.walk_ofT (n:=63) (k:=20) (x:="_law_script") (CX:=λ_=>CX0) (sp:=λw=>spLaw P_best (K w.params)) hn ∅ hdf ⟨rfl,by decide,by decide,rfl⟩ hY hYT hKP F (λ_ _ a ns hl hO hS=>⟨a,ns,rfl,hS,hl,.inl hO.1,λ_=>rfl⟩) λ_ _ _ _ _ z=>z
end K74
theorem PySem.W.Fast.tw12735725264852330841 : True := trivial
theorem PySem.W.Fast.tw7338217398278906712 : True := trivial
theorem PySem.W.Fast.tw17715481643420644383 : True := trivial
theorem PySem.W.Fast.tw635251308600107958 : True := trivial
theorem PySem.W.Fast.tw9615363041388889207 : True := trivial
theorem PySem.W.Fast.tw12405499755296927577 : True := trivial
theorem PySem.W.Fast.tw14865900303105167683 : True := trivial
theorem PySem.W.Fast.tw8005684530929237888 : True := trivial
theorem PySem.W.Fast.tw16911323877703131558 : True := trivial
theorem PySem.W.Fast.tw9588148146662212324 : True := trivial
theorem PySem.W.Fast.tw1532939478933270469 : True := trivial
theorem PySem.W.Fast.tw14336637398157715117 : True := trivial
theorem PySem.W.Fast.tw2653415294143091288 : True := trivial
theorem PySem.W.Fast.tw15203666812985114431 : True := trivial
theorem PySem.W.Fast.tw14212988573850662000 : True := trivial
theorem PySem.W.Fast.tw9060689573012987392 : True := trivial
theorem PySem.W.Fast.tw17813328688952015898 : True := trivial
theorem PySem.W.Fast.tw916324053685945275 : True := trivial
theorem PySem.W.Fast.tw17422063156859413666 : True := trivial
theorem PySem.W.Fast.tw13569561302480134511 : True := trivial
theorem PySem.W.Fast.tw7500531508933325046 : True := trivial
theorem PySem.W.Fast.tw4537554633227778640 : True := trivial
theorem PySem.W.Fast.tw8474945000790307855 : True := trivial
theorem PySem.W.Fast.tw13596121411339589553 : True := trivial
theorem PySem.W.Fast.tw8904691582308851385 : True := trivial
theorem PySem.W.Fast.tw14453493725227486635 : True := trivial
theorem PySem.W.Fast.tw8056073572134284199 : True := trivial
theorem PySem.W.Fast.tw14834637399939287475 : True := trivial
theorem PySem.W.Fast.tw2535741917203960382 : True := trivial
theorem PySem.W.Fast.tw7284390666253054702 : True := trivial
theorem PySem.W.Fast.tw18260675890612796051 : True := trivial
theorem PySem.W.Fast.tw6375849225856840053 : True := trivial
theorem PySem.W.Fast.tw17804601172636207633 : True := trivial
theorem PySem.W.Fast.tw9668188677420051926 : True := trivial
theorem PySem.W.Fast.tw925837427708164841 : True := trivial
theorem PySem.W.Fast.tw17527980802527874169 : True := trivial
theorem PySem.W.Fast.tw497081568044529302 : True := trivial
theorem PySem.W.Fast.tw15550261598537810060 : True := trivial
theorem PySem.W.Fast.tw6278604507919957609 : True := trivial
theorem PySem.W.Fast.tw4093976218573114040 : True := trivial
theorem PySem.W.Fast.tw10276874004195392446 : True := trivial
theorem PySem.W.Fast.tw15641264017198263353 : True := trivial
theorem PySem.W.Fast.tw16430457888645200056 : True := trivial
theorem PySem.W.Fast.tw4302342223506412728 : True := trivial
theorem PySem.W.Fast.tw7045503738876690140 : True := trivial
theorem PySem.W.Fast.tw11530178042096290110 : True := trivial
theorem PySem.W.Fast.tw15872868302780194825 : True := trivial
theorem PySem.W.Fast.tw3673500780840970792 : True := trivial
theorem PySem.W.Fast.tw18429204938149516334 : True := trivial
theorem PySem.W.Fast.tw16147473655927438647 : True := trivial
theorem PySem.W.Fast.tw8380833687051999076 : True := trivial
theorem PySem.W.Fast.tw6359749561797221275 : True := trivial
theorem PySem.W.Fast.tw441539501559712972 : True := trivial
theorem PySem.W.Fast.tw14956401276645283825 : True := trivial
theorem PySem.W.Fast.tw6930693910218343396 : True := trivial
theorem PySem.W.Fast.tw9477164873700955913 : True := trivial
theorem PySem.W.Fast.tw13462309686833108656 : True := trivial
theorem PySem.W.Fast.tw1231628108997668358 : True := trivial
theorem PySem.W.Fast.tw14108934680858746919 : True := trivial
theorem PySem.W.Fast.tw15021477198185024632 : True := trivial
theorem PySem.W.Fast.tw12369860476625288978 : True := trivial
theorem PySem.W.Fast.tw14777127841747219704 : True := trivial
theorem PySem.W.Fast.tw603554401751245012 : True := trivial
theorem PySem.W.Fast.tw726532266044880610 : True := trivial
theorem PySem.W.Fast.tw17376266260402550031 : True := trivial
theorem PySem.W.Fast.tw15758647826945339541 : True := trivial
theorem PySem.W.Fast.tw12728470531699647178 : True := trivial
theorem PySem.W.Fast.tw11041272510644398227 : True := trivial
theorem PySem.W.Fast.tw16153465308107168442 : True := trivial
theorem PySem.W.Fast.tw4554219289957355577 : True := trivial
theorem PySem.W.Fast.tw11338032156814271286 : True := trivial
theorem PySem.W.Fast.tw17772741843825498408 : True := trivial
theorem PySem.W.Fast.tw7106471451635631692 : True := trivial
theorem PySem.W.Fast.tw12559685035884320861 : True := trivial
theorem PySem.W.Fast.tw9739152113128761266 : True := trivial
theorem PySem.W.Fast.tw4426202139055676984 : True := trivial
theorem PySem.W.Fast.tw14442418039584493508 : True := trivial
theorem PySem.W.Fast.tw2108734396981874579 : True := trivial
theorem PySem.W.Fast.tw17251850621165046686 : True := trivial
theorem PySem.W.Fast.tw5544179180893041809 : True := trivial
theorem PySem.W.Fast.tw15301621139539768354 : True := trivial
theorem PySem.W.Fast.tw12044253367227300622 : True := trivial
theorem PySem.W.Fast.tw1489903116392389582 : True := trivial
theorem PySem.W.Fast.tw12770269613141180815 : True := trivial
theorem PySem.W.Fast.tw7224219008210588816 : True := trivial
theorem PySem.W.Fast.tw13176253543087739302 : True := trivial
theorem PySem.W.Fast.tw2603333412303436252 : True := trivial
theorem PySem.W.Fast.tw18277169942219403392 : True := trivial
theorem PySem.W.Fast.tw13138171786472152027 : True := trivial
theorem PySem.W.Fast.tw17877294268654816543 : True := trivial
theorem PySem.W.Fast.tw10786304394264842505 : True := trivial
theorem PySem.W.Fast.tw3135962239022878245 : True := trivial
theorem PySem.W.Fast.tw5805961568782852621 : True := trivial
theorem PySem.W.Fast.tw3530104105688096084 : True := trivial
theorem PySem.W.Fast.tw7911280793211104605 : True := trivial
theorem PySem.W.Fast.tw16874472888083028179 : True := trivial
theorem PySem.W.Fast.tw11513354444519541926 : True := trivial
theorem PySem.W.Fast.tw12431263985739507937 : True := trivial
theorem PySem.W.Fast.tw16188214917324435055 : True := trivial
theorem PySem.W.Fast.tw8185893152069809355 : True := trivial
theorem PySem.W.Fast.tw16432266103787352373 : True := trivial
theorem PySem.W.Fast.tw12609984921855854695 : True := trivial
theorem PySem.W.Fast.tw8840651274342537707 : True := trivial
theorem PySem.W.Fast.tw15384924626990356471 : True := trivial
theorem PySem.W.Fast.tw2164140062507353163 : True := trivial
theorem PySem.W.Fast.tw14641744838071758580 : True := trivial
theorem PySem.W.Fast.tw15417885183769161283 : True := trivial
theorem PySem.W.Fast.tw353821807908450542 : True := trivial
theorem PySem.W.Fast.tw10817112264986326217 : True := trivial
theorem PySem.W.Fast.tw8374446022805463707 : True := trivial
theorem PySem.W.Fast.tw9909514349021477950 : True := trivial
theorem PySem.W.Fast.tw9699591293545583591 : True := trivial
theorem PySem.W.Fast.tw14309976152516863051 : True := trivial
theorem PySem.W.Fast.tw15870922799614060884 : True := trivial
theorem PySem.W.Fast.tw17198269419749566880 : True := trivial
theorem PySem.W.Fast.tw4906738785250961369 : True := trivial
theorem PySem.W.Fast.tw15642270828501370537 : True := trivial
theorem PySem.W.Fast.tw16633303956429212422 : True := trivial
theorem PySem.W.Fast.tw12681388410599185671 : True := trivial
theorem PySem.W.Fast.tw6474024472348709045 : True := trivial
theorem PySem.W.Fast.tw1107347627436130701 : True := trivial
theorem PySem.W.Fast.tw13057112550662016579 : True := trivial
theorem PySem.W.Fast.tw511160068488076816 : True := trivial
theorem PySem.W.Fast.tw4442798922586883622 : True := trivial
theorem PySem.W.Fast.tw4654907356339055724 : True := trivial
theorem PySem.W.Fast.tw9042842220365270050 : True := trivial
theorem PySem.W.Fast.tw6265834719422443314 : True := trivial
theorem PySem.W.Fast.tw9706478167401328849 : True := trivial
theorem PySem.W.Fast.tw7155584463539475395 : True := trivial
theorem PySem.W.Fast.tw11314717839109732404 : True := trivial
theorem PySem.W.Fast.tw13263165903939426668 : True := trivial
theorem PySem.W.Fast.tw10721808823803615026 : True := trivial
theorem PySem.W.Fast.tw15513102619806339932 : True := trivial
theorem PySem.W.Fast.tw17332052007139883254 : True := trivial
theorem PySem.W.Fast.tw3817544222596208716 : True := trivial
theorem PySem.W.Fast.tw2978229067101146008 : True := trivial
theorem PySem.W.Fast.tw11832302688641119753 : True := trivial
theorem PySem.W.Fast.tw3927575803371878449 : True := trivial
theorem PySem.W.Fast.tw17801073029700130105 : True := trivial
theorem PySem.W.Fast.tw14462353704184695660 : True := trivial
theorem PySem.W.Fast.tw3728340019428120929 : True := trivial
theorem PySem.W.Fast.tw16279023570030639522 : True := trivial
theorem PySem.W.Fast.tw2799554096617773626 : True := trivial
theorem PySem.W.Fast.tw9433848273959483480 : True := trivial
theorem PySem.W.Fast.tw7017443242046881775 : True := trivial
theorem PySem.W.Fast.tw14537133993385455028 : True := trivial
theorem PySem.W.Fast.tw6638479909622779277 : True := trivial
theorem PySem.W.Fast.tw16509444025059844608 : True := trivial
theorem PySem.W.Fast.tw12331255426512582377 : True := trivial
theorem PySem.W.Fast.tw8010278465273897699 : True := trivial
theorem PySem.W.Fast.tw4880769602180289819 : True := trivial
theorem PySem.W.Fast.tw12160141617016904315 : True := trivial
theorem PySem.W.Fast.tw10658020534055907524 : True := trivial
theorem PySem.W.Fast.tw315101120393743750 : True := trivial
theorem PySem.W.Fast.tw3663257147839620719 : True := trivial
theorem PySem.W.Fast.tw13848667089953289772 : True := trivial
theorem PySem.W.Fast.tw6626450340439297570 : True := trivial
theorem PySem.W.Fast.tw9974865097147905739 : True := trivial
theorem PySem.W.Fast.tw16845706407167184250 : True := trivial
theorem PySem.W.Fast.tw14407145413864994326 : True := trivial
theorem PySem.W.Fast.tw12679116753315207485 : True := trivial
theorem PySem.W.Fast.tw485649428672637054 : True := trivial
theorem PySem.W.Fast.tw6878986661284214208 : True := trivial
theorem PySem.W.Fast.tw7824644510454466839 : True := trivial
theorem PySem.W.Fast.tw5233209821720883951 : True := trivial
theorem PySem.W.Fast.tw16892347461445303842 : True := trivial
open PySem PySem.W PyProof.Rows
set_option maxRecDepth 100000 in
set_option maxHeartbeats 0 in
theorem PySem.Challenge.cw_halforder_k74_keepers_begun_holds : PySem.Challenge.rw_halforder_k74_keepers_begun.Holds := by
 w_on;o_law;k_head;(case hw=>w_witness2)
 k_fill
 refine K74.walk (l:=PySem.Challenge.rw_halforder_k74_keepers_begun) rfl rfl (λw h Y=>PySem.W.km_in_of Y) (λw h Y=>PySem.W.km_tabs_of Y _ (A0M ..)) (λw=>by kernel_rfl) ?F
 case F=>
  intro w mg fa h KX G hmg;refine' K74.all_mk KX G hmg ?q_aC_Ways ?q_pg_Ways ?q_hd_Ways ?q_po_Ways ?q_sa_Ways ?q_mk_Ways ?q_kc_Ways ?q_n_Ways_names ?q_n_Ways_bits ?q_n_Ways_ahead ?q_n_Ways_full ?q_n_Ways_known ?q_aC_Keeper ?q_pg_Keeper ?q_hd_Keeper ?q_po_Keeper ?q_sa_Keeper ?q_mk_Keeper ?q_kc_Keeper ?q_n_Keeper_names ?q_n_Keeper_now ?q_n_Keeper_past ?q_n_Keeper_undone ?q_cg ?q_ct ?q_aX_HalfError ?q_aX_NoHalf ?q_aX_NoText ?q_aX_NoName ?q_aX_TooMany ?q_aX_NoCover ?q_aX_NoPlace ?q_aX_NoOrder ?q_aX_NoJoin ?q_aX_Clash ?q_aX_NoPaper ?q_aX_NoPlan ?q_aX_NoBound ?q_aX_NoSaying ?q_aX_NoMore ?q_ex_HalfError ?q_ex_NoHalf ?q_ex_NoText ?q_ex_NoName ?q_ex_TooMany ?q_ex_NoCover ?q_ex_NoPlace ?q_ex_NoOrder ?q_ex_NoJoin ?q_ex_Clash ?q_ex_NoPaper ?q_ex_NoPlan ?q_ex_NoBound ?q_ex_NoSaying ?q_ex_NoMore ?q_ndX ?q_a0 ?q_l0 ?q_c0 ?q_k0 ?q_a1 ?q_l1 ?q_c1 ?q_k1 ?q_a2 ?q_l2 ?q_c2 ?q_k2 ?q_a3 ?q_l3 ?q_c3 ?q_k3 ?q_a4 ?q_l4 ?q_c4 ?q_k4 ?q_a5 ?q_l5 ?q_c5 ?q_k5 ?q_a6 ?q_l6 ?q_c6 ?q_k6 ?q_a7 ?q_l7 ?q_c7 ?q_k7 ?q_a8 ?q_l8 ?q_c8 ?q_k8 ?q_a9 ?q_l9 ?q_c9 ?q_k9 ?q_a10 ?q_l10 ?q_c10 ?q_k10 ?q_a11 ?q_l11 ?q_c11 ?q_k11 ?q_a12 ?q_l12 ?q_c12 ?q_k12 ?q_a13 ?q_l13 ?q_c13 ?q_k13 ?q_a14 ?q_l14 ?q_c14 ?q_k14 ?q_a15 ?q_l15 ?q_c15 ?q_k15 ?q_a16 ?q_l16 ?q_c16 ?q_k16 ?q_a17 ?q_l17 ?q_c17 ?q_k17 ?q_a18 ?q_l18 ?q_c18 ?q_k18 ?q_a19 ?q_l19 ?q_c19 ?q_k19 ?q_a20 ?q_l20 ?q_c20 ?q_k20 ?q_a21 ?q_l21 ?q_c21 ?q_k21 ?q_a22 ?q_l22 ?q_c22 ?q_k22 ?q_a23 ?q_l23 ?q_c23 ?q_k23 ?q_a24 ?q_l24 ?q_c24 ?q_k24 ?q_a25 ?q_i25 ?q_l25 ?q_c25 ?q_k25 ?q_a26 ?q_i26 ?q_l26 ?q_c26 ?q_k26 ?q_a27 ?q_i27 ?q_l27 ?q_c27 ?q_k27 ?q_a28 ?q_i28 ?q_l28 ?q_c28 ?q_k28 ?q_a29 ?q_i29 ?q_l29 ?q_c29 ?q_k29 ?q_a30 ?q_i30 ?q_l30 ?q_c30 ?q_k30 ?q_a31 ?q_i31 ?q_l31 ?q_c31 ?q_k31 ?q_a32 ?q_i32 ?q_l32 ?q_c32 ?q_k32 ?q_a33 ?q_i33 ?q_l33 ?q_c33 ?q_k33 ?q_a34 ?q_i34 ?q_l34 ?q_c34 ?q_k34 ?q_a35 ?q_i35 ?q_l35 ?q_c35 ?q_k35 ?q_a36 ?q_i36 ?q_l36 ?q_c36 ?q_k36 ?q_a37 ?q_i37 ?q_l37 ?q_c37 ?q_k37 ?q_a38 ?q_i38 ?q_l38 ?q_c38 ?q_k38 ?q_a39 ?q_i39 ?q_l39 ?q_c39 ?q_k39 ?q_a40 ?q_i40 ?q_l40 ?q_c40 ?q_k40 ?q_a41 ?q_i41 ?q_l41 ?q_c41 ?q_k41 ?q_a42 ?q_i42 ?q_l42 ?q_c42 ?q_k42 ?q_a43 ?q_i43 ?q_l43 ?q_c43 ?q_k43 ?q_lc ?q_lh ?q_lg ?q_g0 ?q_g1 ?q_g2 ?q_z0 ?q_z1 ?q_z2 ?q_z3 ?q_z4 ?q_z5 ?q_z6 ?q_z7 ?q_z8 ?q_z9 ?q_z10 ?q_z11 ?q_z12 ?q_z13 ?q_z14 ?q_z15 ?q_z16
  (case q_aC_Ways=>k_is)
  (case q_pg_Ways=>k_is)
  (case q_hd_Ways=>k_is)
  (case q_po_Ways=>k_is)
  (case q_sa_Ways=>k_is)
  (case q_mk_Ways=>k_is)
  (case q_kc_Ways=>k_is)
  (case q_n_Ways_names=>k_is)
  (case q_n_Ways_bits=>k_is)
  (case q_n_Ways_ahead=>k_is)
  (case q_n_Ways_full=>k_is)
  (case q_n_Ways_known=>k_is)
  (case q_aC_Keeper=>k_is)
  (case q_pg_Keeper=>k_is)
  (case q_hd_Keeper=>k_is)
  (case q_po_Keeper=>k_is)
  (case q_sa_Keeper=>k_is)
  (case q_mk_Keeper=>k_is)
  (case q_kc_Keeper=>k_is)
  (case q_n_Keeper_names=>k_is)
  (case q_n_Keeper_now=>k_is)
  (case q_n_Keeper_past=>k_is)
  (case q_n_Keeper_undone=>k_is)
  (case q_cg=>k_is)
  (case q_ct=>k_is)
  (case q_aX_HalfError=>k_is)
  (case q_aX_NoHalf=>k_is)
  (case q_aX_NoText=>k_is)
  (case q_aX_NoName=>k_is)
  (case q_aX_TooMany=>k_is)
  (case q_aX_NoCover=>k_is)
  (case q_aX_NoPlace=>k_is)
  (case q_aX_NoOrder=>k_is)
  (case q_aX_NoJoin=>k_is)
  (case q_aX_Clash=>k_is)
  (case q_aX_NoPaper=>k_is)
  (case q_aX_NoPlan=>k_is)
  (case q_aX_NoBound=>k_is)
  (case q_aX_NoSaying=>k_is)
  (case q_aX_NoMore=>k_is)
  (case q_ex_HalfError=>kernel_rfl)
  (case q_ex_NoHalf=>kernel_rfl)
  (case q_ex_NoText=>kernel_rfl)
  (case q_ex_NoName=>kernel_rfl)
  (case q_ex_TooMany=>kernel_rfl)
  (case q_ex_NoCover=>kernel_rfl)
  (case q_ex_NoPlace=>kernel_rfl)
  (case q_ex_NoOrder=>kernel_rfl)
  (case q_ex_NoJoin=>kernel_rfl)
  (case q_ex_Clash=>kernel_rfl)
  (case q_ex_NoPaper=>kernel_rfl)
  (case q_ex_NoPlan=>kernel_rfl)
  (case q_ex_NoBound=>kernel_rfl)
  (case q_ex_NoSaying=>kernel_rfl)
  (case q_ex_NoMore=>kernel_rfl)
  (case q_ndX=>decide)
  (case q_a0=>k_is)
  (case q_l0=>k_is)
  (case q_c0=>k_is)
  (case q_k0=>k_is)
  (case q_a1=>k_is)
  (case q_l1=>k_is)
  (case q_c1=>k_is)
  (case q_k1=>k_is)
  (case q_a2=>k_is)
  (case q_l2=>k_is)
  (case q_c2=>k_is)
  (case q_k2=>k_is)
  (case q_a3=>k_is)
  (case q_l3=>k_is)
  (case q_c3=>k_is)
  (case q_k3=>k_is)
  (case q_a4=>k_is)
  (case q_l4=>k_is)
  (case q_c4=>k_is)
  (case q_k4=>k_is)
  (case q_a5=>k_is)
  (case q_l5=>k_is)
  (case q_c5=>k_is)
  (case q_k5=>k_is)
  (case q_a6=>k_is)
  (case q_l6=>k_is)
  (case q_c6=>k_is)
  (case q_k6=>k_is)
  (case q_a7=>k_is)
  (case q_l7=>k_is)
  (case q_c7=>k_is)
  (case q_k7=>k_is)
  (case q_a8=>k_is)
  (case q_l8=>k_is)
  (case q_c8=>k_is)
  (case q_k8=>k_is)
  (case q_a9=>k_is)
  (case q_l9=>k_is)
  (case q_c9=>k_is)
  (case q_k9=>k_is)
  (case q_a10=>k_is)
  (case q_l10=>k_is)
  (case q_c10=>k_is)
  (case q_k10=>k_is)
  (case q_a11=>k_is)
  (case q_l11=>k_is)
  (case q_c11=>k_is)
  (case q_k11=>k_is)
  (case q_a12=>k_is)
  (case q_l12=>k_is)
  (case q_c12=>k_is)
  (case q_k12=>k_is)
  (case q_a13=>k_is)
  (case q_l13=>k_is)
  (case q_c13=>k_is)
  (case q_k13=>k_is)
  (case q_a14=>k_is)
  (case q_l14=>k_is)
  (case q_c14=>k_is)
  (case q_k14=>k_is)
  (case q_a15=>k_is)
  (case q_l15=>k_is)
  (case q_c15=>k_is)
  (case q_k15=>k_is)
  (case q_a16=>k_is)
  (case q_l16=>k_is)
  (case q_c16=>k_is)
  (case q_k16=>k_is)
  (case q_a17=>k_is)
  (case q_l17=>k_is)
  (case q_c17=>k_is)
  (case q_k17=>k_is)
  (case q_a18=>k_is)
  (case q_l18=>k_is)
  (case q_c18=>k_is)
  (case q_k18=>k_is)
  (case q_a19=>k_is)
  (case q_l19=>k_is)
  (case q_c19=>k_is)
  (case q_k19=>k_is)
  (case q_a20=>k_is)
  (case q_l20=>k_is)
  (case q_c20=>k_is)
  (case q_k20=>k_is)
  (case q_a21=>k_is)
  (case q_l21=>k_is)
  (case q_c21=>k_is)
  (case q_k21=>k_is)
  (case q_a22=>k_is)
  (case q_l22=>k_is)
  (case q_c22=>k_is)
  (case q_k22=>k_is)
  (case q_a23=>k_is)
  (case q_l23=>k_is)
  (case q_c23=>k_is)
  (case q_k23=>k_is)
  (case q_a24=>k_is)
  (case q_l24=>k_is)
  (case q_c24=>k_is)
  (case q_k24=>k_is)
  (case q_a25=>k_is)
  (case q_i25=>k_is)
  (case q_l25=>k_is)
  (case q_c25=>k_is)
  (case q_k25=>k_is)
  (case q_a26=>k_is)
  (case q_i26=>k_is)
  (case q_l26=>k_is)
  (case q_c26=>k_is)
  (case q_k26=>k_is)
  (case q_a27=>k_is)
  (case q_i27=>k_is)
  (case q_l27=>k_is)
  (case q_c27=>k_is)
  (case q_k27=>k_is)
  (case q_a28=>k_is)
  (case q_i28=>k_is)
  (case q_l28=>k_is)
  (case q_c28=>k_is)
  (case q_k28=>k_is)
  (case q_a29=>k_is)
  (case q_i29=>k_is)
  (case q_l29=>k_is)
  (case q_c29=>k_is)
  (case q_k29=>k_is)
  (case q_a30=>k_is)
  (case q_i30=>k_is)
  (case q_l30=>k_is)
  (case q_c30=>k_is)
  (case q_k30=>k_is)
  (case q_a31=>k_is)
  (case q_i31=>k_is)
  (case q_l31=>k_is)
  (case q_c31=>k_is)
  (case q_k31=>k_is)
  (case q_a32=>k_is)
  (case q_i32=>k_is)
  (case q_l32=>k_is)
  (case q_c32=>k_is)
  (case q_k32=>k_is)
  (case q_a33=>k_is)
  (case q_i33=>k_is)
  (case q_l33=>k_is)
  (case q_c33=>k_is)
  (case q_k33=>k_is)
  (case q_a34=>k_is)
  (case q_i34=>k_is)
  (case q_l34=>k_is)
  (case q_c34=>k_is)
  (case q_k34=>k_is)
  (case q_a35=>k_is)
  (case q_i35=>k_is)
  (case q_l35=>k_is)
  (case q_c35=>k_is)
  (case q_k35=>k_is)
  (case q_a36=>k_is)
  (case q_i36=>k_is)
  (case q_l36=>k_is)
  (case q_c36=>k_is)
  (case q_k36=>k_is)
  (case q_a37=>k_is)
  (case q_i37=>k_is)
  (case q_l37=>k_is)
  (case q_c37=>k_is)
  (case q_k37=>k_is)
  (case q_a38=>k_is)
  (case q_i38=>k_is)
  (case q_l38=>k_is)
  (case q_c38=>k_is)
  (case q_k38=>k_is)
  (case q_a39=>k_is)
  (case q_i39=>k_is)
  (case q_l39=>k_is)
  (case q_c39=>k_is)
  (case q_k39=>k_is)
  (case q_a40=>k_is)
  (case q_i40=>k_is)
  (case q_l40=>k_is)
  (case q_c40=>k_is)
  (case q_k40=>k_is)
  (case q_a41=>k_is)
  (case q_i41=>k_is)
  (case q_l41=>k_is)
  (case q_c41=>k_is)
  (case q_k41=>k_is)
  (case q_a42=>k_is)
  (case q_i42=>k_is)
  (case q_l42=>k_is)
  (case q_c42=>k_is)
  (case q_k42=>k_is)
  (case q_a43=>k_is)
  (case q_i43=>k_is)
  (case q_l43=>k_is)
  (case q_c43=>k_is)
  (case q_k43=>k_is)
  (case q_lc=>rfl)
  (case q_lh=>kernel_rfl)
  (case q_lg=>decide)
  (case q_g0=>k_is)
  (case q_g1=>k_is)
  (case q_g2=>k_is)
  (case q_z0=>k_is)
  (case q_z1=>k_is)
  (case q_z2=>k_is)
  (case q_z3=>k_is)
  (case q_z4=>k_is)
  (case q_z5=>k_is)
  (case q_z6=>k_is)
  (case q_z7=>k_is)
  (case q_z8=>k_is)
  (case q_z9=>k_is)
  (case q_z10=>k_is)
  (case q_z11=>k_is)
  (case q_z12=>k_is)
  (case q_z13=>k_is)
  (case q_z14=>k_is)
  (case q_z15=>k_is)
  (case q_z16=>k_is)
